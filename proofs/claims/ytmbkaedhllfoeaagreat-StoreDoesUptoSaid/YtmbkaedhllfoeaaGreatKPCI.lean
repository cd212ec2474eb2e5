/-
  Texts of the proof, put together.
-/
import Derived.Laws.CopyOwn
import Derived.Test.YtmbkaedhllfoeaaGreatKPBG
import Derived.Test.YtmbkaedhllfoeaaGreatKPCC
import Derived.Test.YtmbkaedhllfoeaaGreatKPWr
set_option maxRecDepth 100000
set_option maxHeartbeats 4000000
set_option linter.unusedVariables false
namespace Go.Str
open Go.Rst Go.Crc Go.Pg Go.Proofs.YtmbkaedhllfoeaaGreat
def headB(ep ar pg:Nat):List UInt8:= [82,83]++wordL ep++ [UInt8.ofNat ar,UInt8.ofNat (pg/256),UInt8.ofNat pg]
theorem headB_length(ep ar pg:Nat):(headB ep ar pg).length=9:=by simp[headB,wordL]
def headP(ep ar pg:Nat):List UInt8:=headB ep ar pg++List.replicate 51 0
theorem headP_length(ep ar pg:Nat):(headP ep ar pg).length=60:=by simp[headP,headB_length]
def headL(ep ar pg:Nat):List UInt8:=sealL (headP ep ar pg)
end Go.Str
namespace Go.Proofs.YtmbkaedhllfoeaaGreat
open Go.RowKit Go.Rst Go.Dv Go.Crc
theorem nine_cells{ep ar pg:Nat}(ha:ar<256):#[Value.int .u8 82,.int .u8 83,.int .u8 ((ep:Int)/16777216%256),.int .u8 ((ep:Int)/65536%256),.int .u8 ((ep:Int)/256%256),.int .u8 ((ep:Int)%256),.int .u8 (ar:Int),.int .u8 ((pg:Int)/256%256),.int .u8 ((pg:Int)%256)]=(bvs (Str.headB ep ar pg)).toArray:=by
 unfold Str.headB wordL bvs bv;simp only[List.map_cons,List.map_nil,List.cons_append,List.nil_append,UInt8.toNat_ofNat'];have e:ar%256=ar:=Nat.mod_eq_of_lt ha;simp[e]
theorem headsec_any(ep ar pg:Nat)(he:ep≤1073741824)(ha:ar≤1)(hp:pg≤65535)(w:World):
  Calls Tryz.prog 79 #[.agg #[.int .i64 (ep:Int),.int .i64 (ar:Int),.int .i64 (pg:Int)]] w (NewB 5 w (Str.headL ep ar pg)):=by
 obtain⟨i5,hi5,jv,hs5,au⟩:=info_parts info5;have kS:=qH hi5;have lA:=qH jv;have iF:=qH hs5;have ax:=qH au;clear hi5 jv hs5 au;have hN:=nine_cells (ep:=ep) (ar:=ar) (pg:=pg) (by omega);rw[show(ep:Int)/16777216%256=(ep:Int)/16777216 by omega,show(pg:Int)/256%256=(pg:Int)/256 by omega] at hN;obtain⟨NB,zO⟩:∃NB,NB=Str.headB ep ar pg:=⟨_,rfl⟩
 have hnl:NB.length=9:=by rw[zO];exact Str.headB_length _ _ _
 rw[←zO] at hN;have HN:=qH hN;have oB:=qH hnl;have IH:=qH zO;clear hN hnl zO;go_enter Tryz.func79,Tryz.ntmps79;go_wp2_with (refine wpList_make_full _ rfl (.const (.int .i64 60)) (.const (.int .i64 60)) 46 rfl 0 5 i5 (.int .u8 0) 1 Tryz.underlying46 kS.out lA.out iF.out .i64 .i64 60 60 60 rfl rfl rfl rfl (by rw[ax.out];omega) (by unfold maxLen;omega) (Nat.zero_le _) ?_)
 intro w1 hown1 hgrow1;obtain⟨bx,bA⟩:∃bx,bx=Obj.cells #[.int .i64 (ep:Int),.int .i64 (ar:Int),.int .i64 (pg:Int)] 91:=⟨_,rfl⟩
 rw[←bA] at hgrow1;have b0:Below w.heap.size w (w.alloc bx):=(Below.refl _ _).alloc (Nat.le_refl _) _;have b1:Below (w.heap.size+1) (w.alloc bx) w1:=((Below.refl _ _).grown hgrow1 (by simp) (fun z hz=>by cases hz))
 have hx1:Dv.Blk w1 w.heap.size 91 #[.int .i64 (ep:Int),.int .i64 (ar:Int),.int .i64 (pg:Int)]:=(b1.block w.heap.size (Nat.lt_succ_self _)).trans (by rw[bA];exact heap_alloc_new w _);have hc0:=hx1.cell 0;have hc1:=hx1.cell 1;have hc2:=hx1.cell 2;simp at hc0 hc1 hc2;obtain⟨Z,hZ⟩:∃Z:List UInt8,Z=List.replicate 60 0:=⟨_,rfl⟩
 have hbl:w1.heap[w.heap.size+1]? =some (.cells (bvs Z).toArray 5 (0,0)):=own_blk hown1 (by rw[hZ];exact madeL 60);have fy:=qH hbl;have hsz:w.heap.size+2≤w1.heap.size:=(Array.getElem?_eq_some_iff.1 hbl).1;have jm:=qH bA;obtain⟨nine,ni⟩:∃nine,nine=Obj.cells (bvs NB).toArray 5:=⟨_,rfl⟩
 have b2:Below (w.heap.size+1) (w.alloc bx) (w1.alloc nine):=b1.alloc (by omega) _;have hb2:(w1.alloc nine).heap[w.heap.size+1]? =some (.cells (bvs Z).toArray 5 (0,0)):=(Below.heap_alloc w1 nine _ (by omega)).trans hbl;have yM:∀j v,(bvs NB)[j]? =some v→(w1.alloc nine).cell? ((⟨w1.heap.size,0,none⟩:Addr).add j)=some v:=fun j v hv=>by
  have:=cell_of_row (w1.alloc nine) w1.heap.size j (bvs NB).toArray 5 (0,0) (by rw[ni];exact heap_alloc_new w1 _);rw[Addr.add_lit,Nat.zero_add,this,List.getElem?_toArray,hv]
 have B0:=qH b0;have B2:=qH b2;have ae:=qH hb2;have Kx:=qH yM;have IB:=qH ni;have iW:=qH (show(bvs NB).length=9 by rw[bvs_length];exact oB.out);have Jq:=qH (show Z.length=60 by rw[hZ,List.length_replicate]);have JH:=qH hZ;clear hZ b0 b1 b2 hb2 yM ni hbl hown1 hgrow1 hx1 bA;have hnz:Obj.cells #[Value.int .u8 82,.int .u8 83,.int .u8 ((ep:Int)/16777216),.int .u8 ((ep:Int)/65536%256),.int .u8 ((ep:Int)/256%256),.int .u8 ((ep:Int)%256),.int .u8 (ar:Int),.int .u8 ((pg:Int)/256),.int .u8 ((pg:Int)%256)] 5=nine:=by rw[HN.out];exact IB.out.symm
 have IL:=qH hnz;clear hnz;go_wp2_with (rw[IL.out];refine wpList_copy_splice rfl (.tmp 5) (.tmp 31) 46 46 rfl 5 Tryz.underlying46 (by rw[show Tryz.prog.info? 5=some i5 from kS.out];simp[iF.out]) (some ⟨w.heap.size+1,0,none⟩) (some ⟨w1.heap.size,0,none⟩) 60 60 9 9 rfl rfl (w.heap.size+1) 0 (bvs Z) 5 ae.out (bvs NB) (by rw[iW.out];decide) (fun _=>⟨rfl,_,rfl,Kx.out⟩) (by rw[iW.out,bvs_length,Jq.out];decide) bvs_one (w.heap.size+1) (w.alloc bx) B2.out (Nat.le_refl _) ?_)
 intro w3 hw3 hb3;obtain⟨PL,bF⟩:∃PL,PL=Str.headP ep ar pg:=⟨_,rfl⟩
 have hpl:PL.length=60:=by rw[bF];exact Str.headP_length _ _ _
 have hsp:splice (bvs Z) 0 (bvs NB)=bvs PL:=by
  have e1:bvs PL=bvs NB++bvs (List.replicate 51 0):=by rw[bF,IH.out];unfold Str.headP;rw[bvs_append]
  have e2:(bvs Z).drop 9=bvs (List.replicate 51 0):=by rw[JH.out];unfold bvs;simp
  unfold splice;rw[iW.out,e1,List.take_zero,List.nil_append,Nat.zero_add,e2]
 have bZ:RB w3 (.slice (some ⟨w.heap.size+1,0,none⟩) 60 60) PL:=by
  refine⟨some ⟨w.heap.size+1,0,none⟩,60,by rw[hpl],by omega,by unfold maxLen;omega,.inr ⟨w.heap.size+1,0,rfl,(Array.getElem?_eq_some_iff.1 hw3.out).1,fun j hj=>?_⟩⟩;rw[Nat.zero_add,cell_of_row w3 (w.heap.size+1) j _ 5 (0,0) hw3.out,hsp,List.getElem?_toArray,bvs_get hj]
 have hcall:=seal_any _ PL w3 bZ (by rw[hpl];decide);have hfin:Str.headL ep ar pg=sealL PL:=by rw[bF];rfl
 have HF:=qH hfin;have HC:=qH hcall;have b7:=qH (B0.out.trans (hb3.mono (Nat.le_succ _)));clear bF hpl hsp bZ hcall hfin hw3 hb3;go_wp2_with fail
 refine HC.out.mono ?_;rintro e w4⟨v4,rfl,bH,hb4⟩;have mg:=own_base bH b7.out.size;rw[←HF.out] at mg;have HO:=qH mg;have ai:=qH (b7.out.trans (hb4.mono b7.out.size));clear bH hb4 mg;go_wp2;go_ret;exact⟨_,rfl,HO.out,ai.out⟩
open Go.RowKit Go.Rst Go.Dv
theorem leaveRH{W:World}{tmps:Array Value}{g:Nat}{a b c d:Value}(h4:tmps.getD 4 undef= .pointer (some ⟨g,0,none⟩))(h5:tmps.getD 5 undef=d)(hb:Dv.Blk W g 91 #[a,b,c]):
  (results Tryz.f84 tmps).run Tryz.prog W= .ok (.tuple #[.agg #[a,b,c],d]) W:=by
 have r0:=hb.cell 0;have r1:=hb.cell 1;have r2:=hb.cell 2;simp at r0 r1 r2;rw[Array.getD_eq_getD_getElem?] at h4 h5;simp[results,h4,h5,r0,r1,r2,go_sem]
theorem leaveNW{W:World}{tmps:Array Value}{g:Nat}{a b c d:Value}(h4:tmps.getD 2 undef= .pointer (some ⟨g,0,none⟩))(h5:tmps.getD 3 undef=d)(hb:Dv.Blk W g 91 #[a,b,c]):
  (results Tryz.f45 tmps).run Tryz.prog W= .ok (.tuple #[.agg #[a,b,c],d]) W:=by
 have r0:=hb.cell 0;have r1:=hb.cell 1;have r2:=hb.cell 2;simp at r0 r1 r2;rw[Array.getD_eq_getD_getElem?] at h4 h5;simp[results,h4,h5,r0,r1,r2,go_sem]
end Go.Proofs.YtmbkaedhllfoeaaGreat
