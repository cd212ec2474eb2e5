/-
  Texts of the proof, put together.
-/
import Derived.StillTailTactics
import Derived.Test.YtmbkaedhllfoeaaGreatKPCI
import Derived.Test.YtmbkaedhllfoeaaGreatKPWr
set_option maxRecDepth 100000
set_option maxHeartbeats 4000000
set_option linter.unusedVariables false
namespace Go.Str
def hEp(l:List UInt8):Nat:=(l.getD 2 0).toNat*16777216+(l.getD 3 0).toNat*65536+(l.getD 4 0).toNat*256+(l.getD 5 0).toNat
def hAr(l:List UInt8):Nat:=(l.getD 6 0).toNat
def hPg(l:List UInt8):Nat:=(l.getD 7 0).toNat*256+(l.getD 8 0).toNat
def hOk(l:List UInt8)(most:Nat):Bool:=if 1≤hEp l∧hEp l≤1073741824∧hAr l<2∧1≤hPg l∧hPg l≤most then (headL (hEp l) (hAr l) (hPg l)==l) else false
end Go.Str
namespace Go.Proofs.YtmbkaedhllfoeaaGreat
open Go.RowKit Go.Rst Go.Dv Go.Crc Go.Str
theorem or_up(x y i:Nat)(h:y<2^i):x*2^i|||y=x*2^i+y:=by
 have:=Nat.shiftLeft_add_eq_or_of_lt (b:=y) (i:=i) h x;rw[Nat.shiftLeft_eq] at this;exact this.symm
theorem hw_or1(a b:Nat)(h:b<256):a*16777216|||b*65536=a*16777216+b*65536:=or_up a (b*65536) 24 (by omega)
theorem hw_or2(a b c:Nat)(h:c<256):(a*16777216+b*65536)|||c*256=a*16777216+b*65536+c*256:=by
 have:=or_up (a*256+b) (c*256) 16 (by omega);rw[show(a*256+b)*2^16=a*16777216+b*65536 by omega] at this;exact this
theorem hw_or3(a b c d:Nat)(h:d<256):(a*16777216+b*65536+c*256)|||d=a*16777216+b*65536+c*256+d:=by
 have:=or_up (a*65536+b*256+c) d 8 (by omega);rw[show(a*65536+b*256+c)*2^8=a*16777216+b*65536+c*256 by omega] at this;exact this
theorem hw_or4(a b:Nat)(h:b<256):a*256|||b=a*256+b:=or_up a b 8 (by omega)
theorem rdHead_any(b:Value)(l:List UInt8)(most:Nat)(w:World)(h:RB w b l)(hl:l.length=64)(hm:most≤600):
  Calls Tryz.prog 84 #[b,.int .i64 (most:Int)] w fun e w'=>e= .returned (.tuple #[.agg #[.int .i64 (Str.hEp l:Int),.int .i64 (Str.hAr l:Int),.int .i64 (Str.hPg l:Int)],.bool (Str.hOk l most)])∧Below w.heap.size w w':=by
 obtain⟨A,c,rfl,hc1,hc2,hc3⟩:=h;rcases hc3 with h0|⟨g,off,rfl,hg,hc⟩
 ·rw[h0] at hl;simp at hl
 unfold maxLen at hc2;rw[hl] at hc1⊢;have j1:=qH (show RB w (.slice (some ⟨g,off,none⟩) 64 c) l from⟨_,c,by rw[hl],by omega,by unfold maxLen;omega,.inr ⟨g,off,rfl,hg,hc⟩⟩);have H2:=qH (fun X (hX:Below w.heap.size w X)=>(hX.cell (p:=⟨g,off+2,none⟩) hg).trans (show w.cell? ⟨g,off+2,none⟩=some (.int .u8 (((l[2]'(by omega)).toNat:Nat):Int)) from hc 2 (by rw[hl];omega)));have H3:=qH (fun X (hX:Below w.heap.size w X)=>(hX.cell (p:=⟨g,off+3,none⟩) hg).trans (show w.cell? ⟨g,off+3,none⟩=some (.int .u8 (((l[3]'(by omega)).toNat:Nat):Int)) from hc 3 (by rw[hl];omega)));have H4:=qH (fun X (hX:Below w.heap.size w X)=>(hX.cell (p:=⟨g,off+4,none⟩) hg).trans (show w.cell? ⟨g,off+4,none⟩=some (.int .u8 (((l[4]'(by omega)).toNat:Nat):Int)) from hc 4 (by rw[hl];omega)));have H5:=qH (fun X (hX:Below w.heap.size w X)=>(hX.cell (p:=⟨g,off+5,none⟩) hg).trans (show w.cell? ⟨g,off+5,none⟩=some (.int .u8 (((l[5]'(by omega)).toNat:Nat):Int)) from hc 5 (by rw[hl];omega)));have H6:=qH (fun X (hX:Below w.heap.size w X)=>(hX.cell (p:=⟨g,off+6,none⟩) hg).trans (show w.cell? ⟨g,off+6,none⟩=some (.int .u8 (((l[6]'(by omega)).toNat:Nat):Int)) from hc 6 (by rw[hl];omega)));have H7:=qH (fun X (hX:Below w.heap.size w X)=>(hX.cell (p:=⟨g,off+7,none⟩) hg).trans (show w.cell? ⟨g,off+7,none⟩=some (.int .u8 (((l[7]'(by omega)).toNat:Nat):Int)) from hc 7 (by rw[hl];omega)));have H8:=qH (fun X (hX:Below w.heap.size w X)=>(hX.cell (p:=⟨g,off+8,none⟩) hg).trans (show w.cell? ⟨g,off+8,none⟩=some (.int .u8 (((l[8]'(by omega)).toNat:Nat):Int)) from hc 8 (by rw[hl];omega)));obtain⟨n2,iR⟩:∃n,n=(l[2]'(by omega)).toNat:=⟨_,rfl⟩
 have hx2:n2<256:=by rw[iR];exact UInt8.toNat_lt _
 rw[←iR] at H2;have B1:=qH iR;clear iR;obtain⟨n3,lE⟩:∃n,n=(l[3]'(by omega)).toNat:=⟨_,rfl⟩
 have hx3:n3<256:=by rw[lE];exact UInt8.toNat_lt _
 rw[←lE] at H3;have Ey:=qH lE;clear lE;obtain⟨n4,di⟩:∃n,n=(l[4]'(by omega)).toNat:=⟨_,rfl⟩
 have E8:n4<256:=by rw[di];exact UInt8.toNat_lt _
 rw[←di] at H4;have Di:=qH di;clear di;obtain⟨n5,dj⟩:∃n,n=(l[5]'(by omega)).toNat:=⟨_,rfl⟩
 have rA:n5<256:=by rw[dj];exact UInt8.toNat_lt _
 rw[←dj] at H5;have BL:=qH dj;clear dj;obtain⟨n6,p8⟩:∃n,n=(l[6]'(by omega)).toNat:=⟨_,rfl⟩
 have qE:n6<256:=by rw[p8];exact UInt8.toNat_lt _
 rw[←p8] at H6;have Eb:=qH p8;clear p8;obtain⟨n7,pP⟩:∃n,n=(l[7]'(by omega)).toNat:=⟨_,rfl⟩
 have yq:n7<256:=by rw[pP];exact UInt8.toNat_lt _
 rw[←pP] at H7;have BB:=qH pP;clear pP;obtain⟨n8,pf⟩:∃n,n=(l[8]'(by omega)).toNat:=⟨_,rfl⟩
 have F2:n8<256:=by rw[pf];exact UInt8.toNat_lt _
 rw[←pf] at H8;have Dp:=qH pf;clear pf;have hw2:IntKind.i64.wrap (n2:Int)=(n2:Int):=by rw[IntKind.wrap_i64];omega
 have hw3:IntKind.i64.wrap (n3:Int)=(n3:Int):=by rw[IntKind.wrap_i64];omega
 have hw4:IntKind.i64.wrap (n4:Int)=(n4:Int):=by rw[IntKind.wrap_i64];omega
 have Ik:IntKind.i64.wrap (n5:Int)=(n5:Int):=by rw[IntKind.wrap_i64];omega
 have xT:IntKind.i64.wrap (n6:Int)=(n6:Int):=by rw[IntKind.wrap_i64];omega
 have Aj:IntKind.i64.wrap (n7:Int)=(n7:Int):=by rw[IntKind.wrap_i64];omega
 have Km:IntKind.i64.wrap (n8:Int)=(n8:Int):=by rw[IntKind.wrap_i64];omega
 have hs2:IntKind.i64.wrap ((n2:Int)*16777216)=(n2:Int)*16777216:=by rw[IntKind.wrap_i64];omega
 have hs3:IntKind.i64.wrap ((n3:Int)*65536)=(n3:Int)*65536:=by rw[IntKind.wrap_i64];omega
 have hs4:IntKind.i64.wrap ((n4:Int)*256)=(n4:Int)*256:=by rw[IntKind.wrap_i64];omega
 have oN:IntKind.i64.wrap ((n7:Int)*256)=(n7:Int)*256:=by rw[IntKind.wrap_i64];omega
 obtain⟨P1,uT⟩:∃P,P=n2*16777216+n3*65536:=⟨_,rfl⟩
 have ma:bits .or .i64 ((n2:Int)*16777216) ((n3:Int)*65536)=(P1:Int):=by
  have h:=or_i64 (n2*16777216) (n3*65536) (by omega) (by omega);rw[hw_or1 n2 n3 (by omega),←uT] at h
  simpa using h
 obtain⟨P2,gC⟩:∃P,P=P1+n4*256:=⟨_,rfl⟩
 have aQ:bits .or .i64 (P1:Int) ((n4:Int)*256)=(P2:Int):=by
  have h:=or_i64 P1 (n4*256) (by omega) (by omega);rw[uT,hw_or2 n2 n3 n4 (by omega),←uT,←gC] at h
  simpa using h
 obtain⟨EP,xf⟩:∃P,P=P2+n5:=⟨_,rfl⟩
 have cT:bits .or .i64 (P2:Int) (n5:Int)=(EP:Int):=by
  have h:=or_i64 P2 n5 (by omega) (by omega);rw[gC,uT,hw_or3 n2 n3 n4 n5 (by omega),←uT,←gC,←xf] at h;exact h
 obtain⟨PG,uY⟩:∃P,P=n7*256+n8:=⟨_,rfl⟩
 have bH:bits .or .i64 ((n7:Int)*256) (n8:Int)=(PG:Int):=by
  have h:=or_i64 (n7*256) n8 (by omega) (by omega);rw[hw_or4 n7 n8 (by omega),←uY] at h
  simpa using h
 have rd:=qH (show EP=n2*16777216+n3*65536+n4*256+n5 by omega);have vc:=qH uY;have he:Str.hEp l=EP:=by rw[rd.out,B1.out,Ey.out,Di.out,BL.out];unfold Str.hEp;simp only[List.getD_eq_getElem?_getD];rw[List.getElem?_eq_getElem (by omega),List.getElem?_eq_getElem (by omega),List.getElem?_eq_getElem (by omega),List.getElem?_eq_getElem (by omega)];rfl
 have ha:Str.hAr l=n6:=by rw[Eb.out];unfold Str.hAr;rw[List.getD_eq_getElem?_getD,List.getElem?_eq_getElem (by omega)];rfl
 have gB:Str.hPg l=PG:=by rw[vc.out,BB.out,Dp.out];unfold Str.hPg;simp only[List.getD_eq_getElem?_getD];rw[List.getElem?_eq_getElem (by omega),List.getElem?_eq_getElem (by omega)];rfl
 have hok:Str.hOk l most=if 1≤EP∧EP≤1073741824∧n6<2∧1≤PG∧PG≤most then (Str.headL EP n6 PG==l) else false:=by unfold Str.hOk;rw[he,ha,gB]
 rw[he,ha,gB];have bq:=qH hok;clear uT gC xf uY he ha gB hok;clear hc;go_enter Tryz.func84,Tryz.ntmps84;go_wp2;refine wp_region_held_drew (S:=Below w.heap.size w) (by kernel_rfl) (((Below.refl _ _).alloc (Nat.le_refl _) _).drew) (fun hHeld=>?_);refine tkC 0 ?_;refine tkC 1 ?_;refine tkA 2 (v:=?_) ?_ ?_;rotate_left
 ·intro X hSw;have hq:=H2.out X hSw;go_simp;try (with_reducible rfl)
 try simp only[Act.put,zA,zB,zC]
 refine tkC 3 ?_;refine tkC 4 ?_;refine tkC 5 ?_;refine tkC 6 ?_;refine tkA 7 (v:=?_) ?_ ?_;rotate_left
 ·intro X hSw;have hq:=H3.out X hSw;go_simp;try (with_reducible rfl)
 try simp only[Act.put,zA,zB,zC]
 refine tkC 8 ?_;refine tkC 9 ?_;refine tkC 10 ?_;refine tkC 11 ?_;refine tkC 12 ?_;refine tkA 13 (v:=?_) ?_ ?_;rotate_left
 ·intro X hSw;have hq:=H4.out X hSw;go_simp;try (with_reducible rfl)
 try simp only[Act.put,zA,zB,zC]
 refine tkC 14 ?_;refine tkC 15 ?_;refine tkC 16 ?_;refine tkC 17 ?_;refine tkC 18 ?_;refine tkA 19 (v:=?_) ?_ ?_;rotate_left
 ·intro X hSw;have hq:=H5.out X hSw;go_simp;try (with_reducible rfl)
 try simp only[Act.put,zA,zB,zC]
 refine tkC 20 ?_;refine tkC 21 ?_;refine tkC 22 ?_;refine tkC 23 ?_;refine tkA 24 (v:=?_) ?_ ?_;rotate_left
 ·intro X hSw;have hq:=H6.out X hSw;go_simp;try (with_reducible rfl)
 try simp only[Act.put,zA,zB,zC]
 refine tkC 25 ?_;refine tkC 26 ?_;refine tkC 27 ?_;refine tkA 28 (v:=?_) ?_ ?_;rotate_left
 ·intro X hSw;have hq:=H7.out X hSw;go_simp;try (with_reducible rfl)
 try simp only[Act.put,zA,zB,zC]
 refine tkC 29 ?_;refine tkC 30 ?_;refine tkC 31 ?_;refine tkC 32 ?_;refine tkA 33 (v:=?_) ?_ ?_;rotate_left
 ·intro X hSw;have hq:=H8.out X hSw;go_simp;try (with_reducible rfl)
 try simp only[Act.put,zA,zB,zC]
 refine tkC 34 ?_;refine tkC 35 ?_;refine tkC 36 ?_;refine rdA (rs:= [37]) ?_;refine arC (fun K hK=>?_);go_simp;try (go_wp2_with fail)
 have ac:=(show Below w.heap.size w ((w.alloc (.cells #[.int .i64 0,.int .i64 0,.int .i64 0] 91)).alloc (.cells #[.int .i64 0,.int .i64 0,.int .i64 0] 91)).drew from(((Below.refl _ w).alloc (Nat.le_refl _) _).alloc (by simp) _).drew)
 refine hK.out _ _ ?_ (fun _=>?_)
 ·exact ac
 clear hK K hHeld;have hHeld:=ac;clear ac;try simp only[Act.put,zA,zB,zC]
 refine rdA (rs:= [38]) ?_;refine arC (fun K hK=>?_);go_simp;try (go_wp2_with fail)
 have ac:=(show Below w.heap.size w ((w.alloc (.cells #[.int .i64 0,.int .i64 0,.int .i64 0] 91)).alloc (.cells #[.int .i64 (EP:Int),.int .i64 (n6:Int),.int .i64 (PG:Int)] 91)).drew from(((Below.refl _ w).alloc (Nat.le_refl _) _).alloc (by simp) _).drew)
 refine hK.out _ _ ?_ (fun _=>?_)
 ·exact ac
 clear hK K hHeld;have hHeld:=ac;clear ac;try simp only[Act.put,zA,zB,zC]
 refine wpAnyH_done (by kernel_rfl) ?_ _;obtain⟨W2,hW2⟩:∃W2,W2=((w.alloc (.cells #[.int .i64 0,.int .i64 0,.int .i64 0] 91)).alloc (.cells #[.int .i64 (EP:Int),.int .i64 (n6:Int),.int .i64 (PG:Int)] 91)).drew:=⟨_,rfl⟩
 rw[←hW2] at hHeld⊢;have ap:Dv.Blk W2 (w.heap.size+1) 91 #[.int .i64 (EP:Int),.int .i64 (n6:Int),.int .i64 (PG:Int)]:=by rw[hW2];have h:=heap_alloc_new (w.alloc (.cells #[.int .i64 0,.int .i64 0,.int .i64 0] 91)) (.cells #[.int .i64 (EP:Int),.int .i64 (n6:Int),.int .i64 (PG:Int)] 91);rw[World.size_alloc] at h;exact h
 have hb4:Dv.Blk W2 w.heap.size 91 #[.int .i64 0,.int .i64 0,.int .i64 0]:=by rw[hW2];exact(Below.heap_alloc _ _ _ (by simp)).trans (heap_alloc_new w _)
 have aE:=qH ap;have ai:=qH hb4;have aG:=qH hHeld;have q0:=ap.cell 0;have q1:=ap.cell 1;have q2:=ap.cell 2;simp at q0 q1 q2;clear hW2 hHeld ap hb4;clear hw2 hw3 hw4 Ik xT Aj Km hs2 hs3 hs4 oN ma aQ cT bH;by_cases hA:(1:Int)≤(EP:Int)
 ·by_cases hB:(EP:Int)≤1073741824
  ·by_cases hC:(n6:Int)<2
   ·by_cases hD:(1:Int)≤(PG:Int)
    ·by_cases hE:(PG:Int)≤(most:Int)
     ·go_wp2
      refine wp_region_held_drew (S:=fun X=>Dv.Blk X (w.heap.size+1) 91 #[.int .i64 (EP:Int),.int .i64 (n6:Int),.int .i64 (PG:Int)]) (by kernel_rfl) aE.out (fun hHeld=>?_);refine tkA 0 (v:=?_) ?_ ?_;rotate_left
      ·intro X hSw;have z0:=hSw.cell 0;have z1:=hSw.cell 1;have z2:=hSw.cell 2;simp at z0 z1 z2;go_simp;try (with_reducible rfl)
      try simp only[Act.put,zA,zB,zC]
      refine tkC 1 ?_;refine tkC 2 ?_;refine tkA 3 (v:=?_) ?_ ?_;rotate_left
      ·intro X hSw;have z0:=hSw.cell 0;have z1:=hSw.cell 1;have z2:=hSw.cell 2;simp at z0 z1 z2;go_simp;try (with_reducible rfl)
      try simp only[Act.put,zA,zB,zC]
      refine tkC 5 ?_;refine rdA (rs:= [4]) ?_;refine arC (fun K hK=>?_);go_simp;refine(headsec_any EP n6 PG (by omega) (by omega) (by omega) _).mono ?_;rintro e w7⟨v7,rfl,mr,br⟩;have bo:=qH ((Below.refl W2.heap.size W2).drew.trans br);have yU:=qH (RB.own mr);obtain⟨A7,c7,rfl,_⟩:=own_shape mr;have vJ:=qH (aE.out.below bo.out aE.out.lt);have fB:=qH (ai.out.below bo.out ai.out.lt);clear mr br;try (go_wp2_with fail)
      have ac:=vJ.out;refine hK.out _ _ ?_ (fun _=>?_)
      ·exact ac
      clear hK K hHeld;have hHeld:=ac;clear ac;try simp only[Act.put,zA,zB,zC]
      refine rdA (rs:= [6]) ?_;refine arC (fun K hK=>?_);go_simp;refine(equal_any _ _ _ l _ yU.out (j1.out.below (aG.out.trans (bo.out.mono aG.out.size)))).mono ?_;rintro e w8⟨rfl,rfl⟩;try (go_wp2_with fail)
      refine hK.out _ _ ?_ (fun _=>?_)
      ·exact hHeld
      clear hK K;try simp only[Act.put,zA,zB,zC]
      refine tkC 7 ?_;refine rdA (rs:= [8]) ?_;refine arC (fun K hK=>?_);have f0:=fB.out.frozen 0;have f1:=fB.out.frozen 1;have f2:=fB.out.frozen 2;have p0:=fB.out.cell 0;have p1:=fB.out.cell 1;have p2:=fB.out.cell 2;simp at p0 p1 p2;go_simp;clear f0 f1 f2 p0 p1 p2;have ac:=(show Dv.Blk ((((w7.setCell ⟨w.heap.size,0,none⟩ (.int .i64 (EP:Int))).setCell ⟨w.heap.size,1,none⟩ (.int .i64 (n6:Int))).setCell ⟨w.heap.size,2,none⟩ (.int .i64 (PG:Int)))) (w.heap.size+1) 91 #[.int .i64 (EP:Int),.int .i64 (n6:Int),.int .i64 (PG:Int)] from((vJ.out.far (by simp) _).far (by simp) _).far (by simp) _)
      refine hK.out _ _ ?_ (fun _=>?_)
      ·exact ac
      clear hK K hHeld;have hHeld:=ac;clear ac;try simp only[Act.put,zA,zB,zC]
      refine tkC 9 ?_;refine wpAnyH_done (by kernel_rfl) ?_ _;obtain⟨W3,hW3⟩:∃W3,W3=(((w7.setCell ⟨w.heap.size,0,none⟩ (.int .i64 (EP:Int))).setCell ⟨w.heap.size,1,none⟩ (.int .i64 (n6:Int))).setCell ⟨w.heap.size,2,none⟩ (.int .i64 (PG:Int))):=⟨_,rfl⟩
      rw[←hW3];have hb4:Dv.Blk W3 w.heap.size 91 #[.int .i64 (EP:Int),.int .i64 (n6:Int),.int .i64 (PG:Int)]:=by rw[hW3];exact((fB.out.set_ 0 _).set_ 1 _).set_ 2 _
      have ad:Below w.heap.size w W3:=by rw[hW3];exact((((aG.out.trans (bo.out.mono aG.out.size)).setCell (Nat.le_refl _) _).setCell (Nat.le_refl _) _).setCell (Nat.le_refl _) _)
      have iS:=qH hb4;have gw:=qH ad;clear hb4 ad hW3 hHeld;go_wp2;refine bodyPost_ret (leaveRH rfl rfl iS.out) rfl ?_;exact⟨by rw[bq.out,if_pos (by omega)];rfl,gw.out⟩
     ·go_wp2
      refine wp_region_held_drew (S:=fun X=>Dv.Blk X (w.heap.size+1) 91 #[.int .i64 (EP:Int),.int .i64 (n6:Int),.int .i64 (PG:Int)]) (by kernel_rfl) aE.out (fun hHeld=>?_);refine tkA 0 (v:=?_) ?_ ?_;rotate_left
      ·intro X hSw;have z0:=hSw.cell 0;have z1:=hSw.cell 1;have z2:=hSw.cell 2;simp at z0 z1 z2;go_simp;try (with_reducible rfl)
      try simp only[Act.put,zA,zB,zC]
      refine tkC 1 ?_;refine tkC 2 ?_;refine tkB 3 ?_;refine tkB 4 ?_;refine tkB 5 ?_;refine tkB 6 ?_;refine tkC 7 ?_;refine rdA (rs:= [8]) ?_;refine arC (fun K hK=>?_);have f0:=ai.out.frozen 0;have f1:=ai.out.frozen 1;have f2:=ai.out.frozen 2;have p0:=ai.out.cell 0;have p1:=ai.out.cell 1;have p2:=ai.out.cell 2;simp at p0 p1 p2;go_simp;clear f0 f1 f2 p0 p1 p2;have ac:=(show Dv.Blk ((((W2.setCell ⟨w.heap.size,0,none⟩ (.int .i64 (EP:Int))).setCell ⟨w.heap.size,1,none⟩ (.int .i64 (n6:Int))).setCell ⟨w.heap.size,2,none⟩ (.int .i64 (PG:Int))).drew) (w.heap.size+1) 91 #[.int .i64 (EP:Int),.int .i64 (n6:Int),.int .i64 (PG:Int)] from((aE.out.far (by simp) _).far (by simp) _).far (by simp) _)
      refine hK.out _ _ ?_ (fun _=>?_)
      ·exact ac
      clear hK K hHeld;have hHeld:=ac;clear ac;try simp only[Act.put,zA,zB,zC]
      refine tkC 9 ?_;refine wpAnyH_done (by kernel_rfl) ?_ _;obtain⟨W3,hW3⟩:∃W3,W3=(((W2.setCell ⟨w.heap.size,0,none⟩ (.int .i64 (EP:Int))).setCell ⟨w.heap.size,1,none⟩ (.int .i64 (n6:Int))).setCell ⟨w.heap.size,2,none⟩ (.int .i64 (PG:Int))).drew:=⟨_,rfl⟩
      rw[←hW3];have hb4:Dv.Blk W3 w.heap.size 91 #[.int .i64 (EP:Int),.int .i64 (n6:Int),.int .i64 (PG:Int)]:=by rw[hW3];exact((ai.out.set_ 0 _).set_ 1 _).set_ 2 _
      have ad:Below w.heap.size w W3:=by rw[hW3];exact(((aG.out.setCell (Nat.le_refl _) _).setCell (Nat.le_refl _) _).setCell (Nat.le_refl _) _).drew
      have iS:=qH hb4;have gw:=qH ad;clear hb4 ad hW3 hHeld;go_wp2;refine bodyPost_ret (leaveRH rfl rfl iS.out) rfl ?_;exact⟨by rw[bq.out,if_neg (by omega)];rfl,gw.out⟩
    ·go_wp2
     refine wp_region_held_drew (S:=fun X=>Dv.Blk X (w.heap.size+1) 91 #[.int .i64 (EP:Int),.int .i64 (n6:Int),.int .i64 (PG:Int)]) (by kernel_rfl) aE.out (fun hHeld=>?_);refine tkA 0 (v:=?_) ?_ ?_;rotate_left
     ·intro X hSw;have z0:=hSw.cell 0;have z1:=hSw.cell 1;have z2:=hSw.cell 2;simp at z0 z1 z2;go_simp;try (with_reducible rfl)
     try simp only[Act.put,zA,zB,zC]
     refine tkC 1 ?_;refine tkC 2 ?_;refine tkB 3 ?_;refine tkB 4 ?_;refine tkB 5 ?_;refine tkB 6 ?_;refine tkC 7 ?_;refine rdA (rs:= [8]) ?_;refine arC (fun K hK=>?_);have f0:=ai.out.frozen 0;have f1:=ai.out.frozen 1;have f2:=ai.out.frozen 2;have p0:=ai.out.cell 0;have p1:=ai.out.cell 1;have p2:=ai.out.cell 2;simp at p0 p1 p2;go_simp;clear f0 f1 f2 p0 p1 p2;have ac:=(show Dv.Blk ((((W2.setCell ⟨w.heap.size,0,none⟩ (.int .i64 (EP:Int))).setCell ⟨w.heap.size,1,none⟩ (.int .i64 (n6:Int))).setCell ⟨w.heap.size,2,none⟩ (.int .i64 (PG:Int))).drew) (w.heap.size+1) 91 #[.int .i64 (EP:Int),.int .i64 (n6:Int),.int .i64 (PG:Int)] from((aE.out.far (by simp) _).far (by simp) _).far (by simp) _)
     refine hK.out _ _ ?_ (fun _=>?_)
     ·exact ac
     clear hK K hHeld;have hHeld:=ac;clear ac;try simp only[Act.put,zA,zB,zC]
     refine tkC 9 ?_;refine wpAnyH_done (by kernel_rfl) ?_ _;obtain⟨W3,hW3⟩:∃W3,W3=(((W2.setCell ⟨w.heap.size,0,none⟩ (.int .i64 (EP:Int))).setCell ⟨w.heap.size,1,none⟩ (.int .i64 (n6:Int))).setCell ⟨w.heap.size,2,none⟩ (.int .i64 (PG:Int))).drew:=⟨_,rfl⟩
     rw[←hW3];have hb4:Dv.Blk W3 w.heap.size 91 #[.int .i64 (EP:Int),.int .i64 (n6:Int),.int .i64 (PG:Int)]:=by rw[hW3];exact((ai.out.set_ 0 _).set_ 1 _).set_ 2 _
     have ad:Below w.heap.size w W3:=by rw[hW3];exact(((aG.out.setCell (Nat.le_refl _) _).setCell (Nat.le_refl _) _).setCell (Nat.le_refl _) _).drew
     have iS:=qH hb4;have gw:=qH ad;clear hb4 ad hW3 hHeld;go_wp2;refine bodyPost_ret (leaveRH rfl rfl iS.out) rfl ?_;exact⟨by rw[bq.out,if_neg (by omega)];rfl,gw.out⟩
   ·go_wp2
    refine wp_region_held_drew (S:=fun X=>Dv.Blk X (w.heap.size+1) 91 #[.int .i64 (EP:Int),.int .i64 (n6:Int),.int .i64 (PG:Int)]) (by kernel_rfl) aE.out (fun hHeld=>?_);refine tkA 0 (v:=?_) ?_ ?_;rotate_left
    ·intro X hSw;have z0:=hSw.cell 0;have z1:=hSw.cell 1;have z2:=hSw.cell 2;simp at z0 z1 z2;go_simp;try (with_reducible rfl)
    try simp only[Act.put,zA,zB,zC]
    refine tkC 1 ?_;refine tkC 2 ?_;refine tkB 3 ?_;refine tkB 4 ?_;refine tkB 5 ?_;refine tkB 6 ?_;refine tkC 7 ?_;refine rdA (rs:= [8]) ?_;refine arC (fun K hK=>?_);have f0:=ai.out.frozen 0;have f1:=ai.out.frozen 1;have f2:=ai.out.frozen 2;have p0:=ai.out.cell 0;have p1:=ai.out.cell 1;have p2:=ai.out.cell 2;simp at p0 p1 p2;go_simp;clear f0 f1 f2 p0 p1 p2;have ac:=(show Dv.Blk ((((W2.setCell ⟨w.heap.size,0,none⟩ (.int .i64 (EP:Int))).setCell ⟨w.heap.size,1,none⟩ (.int .i64 (n6:Int))).setCell ⟨w.heap.size,2,none⟩ (.int .i64 (PG:Int))).drew) (w.heap.size+1) 91 #[.int .i64 (EP:Int),.int .i64 (n6:Int),.int .i64 (PG:Int)] from((aE.out.far (by simp) _).far (by simp) _).far (by simp) _)
    refine hK.out _ _ ?_ (fun _=>?_)
    ·exact ac
    clear hK K hHeld;have hHeld:=ac;clear ac;try simp only[Act.put,zA,zB,zC]
    refine tkC 9 ?_;refine wpAnyH_done (by kernel_rfl) ?_ _;obtain⟨W3,hW3⟩:∃W3,W3=(((W2.setCell ⟨w.heap.size,0,none⟩ (.int .i64 (EP:Int))).setCell ⟨w.heap.size,1,none⟩ (.int .i64 (n6:Int))).setCell ⟨w.heap.size,2,none⟩ (.int .i64 (PG:Int))).drew:=⟨_,rfl⟩
    rw[←hW3];have hb4:Dv.Blk W3 w.heap.size 91 #[.int .i64 (EP:Int),.int .i64 (n6:Int),.int .i64 (PG:Int)]:=by rw[hW3];exact((ai.out.set_ 0 _).set_ 1 _).set_ 2 _
    have ad:Below w.heap.size w W3:=by rw[hW3];exact(((aG.out.setCell (Nat.le_refl _) _).setCell (Nat.le_refl _) _).setCell (Nat.le_refl _) _).drew
    have iS:=qH hb4;have gw:=qH ad;clear hb4 ad hW3 hHeld;go_wp2;refine bodyPost_ret (leaveRH rfl rfl iS.out) rfl ?_;exact⟨by rw[bq.out,if_neg (by omega)];rfl,gw.out⟩
  ·go_wp2
   refine wp_region_held_drew (S:=fun X=>Dv.Blk X (w.heap.size+1) 91 #[.int .i64 (EP:Int),.int .i64 (n6:Int),.int .i64 (PG:Int)]) (by kernel_rfl) aE.out (fun hHeld=>?_);refine tkA 0 (v:=?_) ?_ ?_;rotate_left
   ·intro X hSw;have z0:=hSw.cell 0;have z1:=hSw.cell 1;have z2:=hSw.cell 2;simp at z0 z1 z2;go_simp;try (with_reducible rfl)
   try simp only[Act.put,zA,zB,zC]
   refine tkC 1 ?_;refine tkC 2 ?_;refine tkB 3 ?_;refine tkB 4 ?_;refine tkB 5 ?_;refine tkB 6 ?_;refine tkC 7 ?_;refine rdA (rs:= [8]) ?_;refine arC (fun K hK=>?_);have f0:=ai.out.frozen 0;have f1:=ai.out.frozen 1;have f2:=ai.out.frozen 2;have p0:=ai.out.cell 0;have p1:=ai.out.cell 1;have p2:=ai.out.cell 2;simp at p0 p1 p2;go_simp;clear f0 f1 f2 p0 p1 p2;have ac:=(show Dv.Blk ((((W2.setCell ⟨w.heap.size,0,none⟩ (.int .i64 (EP:Int))).setCell ⟨w.heap.size,1,none⟩ (.int .i64 (n6:Int))).setCell ⟨w.heap.size,2,none⟩ (.int .i64 (PG:Int))).drew) (w.heap.size+1) 91 #[.int .i64 (EP:Int),.int .i64 (n6:Int),.int .i64 (PG:Int)] from((aE.out.far (by simp) _).far (by simp) _).far (by simp) _)
   refine hK.out _ _ ?_ (fun _=>?_)
   ·exact ac
   clear hK K hHeld;have hHeld:=ac;clear ac;try simp only[Act.put,zA,zB,zC]
   refine tkC 9 ?_;refine wpAnyH_done (by kernel_rfl) ?_ _;obtain⟨W3,hW3⟩:∃W3,W3=(((W2.setCell ⟨w.heap.size,0,none⟩ (.int .i64 (EP:Int))).setCell ⟨w.heap.size,1,none⟩ (.int .i64 (n6:Int))).setCell ⟨w.heap.size,2,none⟩ (.int .i64 (PG:Int))).drew:=⟨_,rfl⟩
   rw[←hW3];have hb4:Dv.Blk W3 w.heap.size 91 #[.int .i64 (EP:Int),.int .i64 (n6:Int),.int .i64 (PG:Int)]:=by rw[hW3];exact((ai.out.set_ 0 _).set_ 1 _).set_ 2 _
   have ad:Below w.heap.size w W3:=by rw[hW3];exact(((aG.out.setCell (Nat.le_refl _) _).setCell (Nat.le_refl _) _).setCell (Nat.le_refl _) _).drew
   have iS:=qH hb4;have gw:=qH ad;clear hb4 ad hW3 hHeld;go_wp2;refine bodyPost_ret (leaveRH rfl rfl iS.out) rfl ?_;exact⟨by rw[bq.out,if_neg (by omega)];rfl,gw.out⟩
 ·go_wp2
  refine wp_region_held_drew (S:=fun X=>Dv.Blk X (w.heap.size+1) 91 #[.int .i64 (EP:Int),.int .i64 (n6:Int),.int .i64 (PG:Int)]) (by kernel_rfl) aE.out (fun hHeld=>?_);refine tkA 0 (v:=?_) ?_ ?_;rotate_left
  ·intro X hSw;have z0:=hSw.cell 0;have z1:=hSw.cell 1;have z2:=hSw.cell 2;simp at z0 z1 z2;go_simp;try (with_reducible rfl)
  try simp only[Act.put,zA,zB,zC]
  refine tkC 1 ?_;refine tkC 2 ?_;refine tkB 3 ?_;refine tkB 4 ?_;refine tkB 5 ?_;refine tkB 6 ?_;refine tkC 7 ?_;refine rdA (rs:= [8]) ?_;refine arC (fun K hK=>?_);have f0:=ai.out.frozen 0;have f1:=ai.out.frozen 1;have f2:=ai.out.frozen 2;have p0:=ai.out.cell 0;have p1:=ai.out.cell 1;have p2:=ai.out.cell 2;simp at p0 p1 p2;go_simp;clear f0 f1 f2 p0 p1 p2;have ac:=(show Dv.Blk ((((W2.setCell ⟨w.heap.size,0,none⟩ (.int .i64 (EP:Int))).setCell ⟨w.heap.size,1,none⟩ (.int .i64 (n6:Int))).setCell ⟨w.heap.size,2,none⟩ (.int .i64 (PG:Int))).drew) (w.heap.size+1) 91 #[.int .i64 (EP:Int),.int .i64 (n6:Int),.int .i64 (PG:Int)] from((aE.out.far (by simp) _).far (by simp) _).far (by simp) _)
  refine hK.out _ _ ?_ (fun _=>?_)
  ·exact ac
  clear hK K hHeld;have hHeld:=ac;clear ac;try simp only[Act.put,zA,zB,zC]
  refine tkC 9 ?_;refine wpAnyH_done (by kernel_rfl) ?_ _;obtain⟨W3,hW3⟩:∃W3,W3=(((W2.setCell ⟨w.heap.size,0,none⟩ (.int .i64 (EP:Int))).setCell ⟨w.heap.size,1,none⟩ (.int .i64 (n6:Int))).setCell ⟨w.heap.size,2,none⟩ (.int .i64 (PG:Int))).drew:=⟨_,rfl⟩
  rw[←hW3];have hb4:Dv.Blk W3 w.heap.size 91 #[.int .i64 (EP:Int),.int .i64 (n6:Int),.int .i64 (PG:Int)]:=by rw[hW3];exact((ai.out.set_ 0 _).set_ 1 _).set_ 2 _
  have ad:Below w.heap.size w W3:=by rw[hW3];exact(((aG.out.setCell (Nat.le_refl _) _).setCell (Nat.le_refl _) _).setCell (Nat.le_refl _) _).drew
  have iS:=qH hb4;have gw:=qH ad;clear hb4 ad hW3 hHeld;go_wp2;refine bodyPost_ret (leaveRH rfl rfl iS.out) rfl ?_;exact⟨by rw[bq.out,if_neg (by omega)];rfl,gw.out⟩
end Go.Proofs.YtmbkaedhllfoeaaGreat
