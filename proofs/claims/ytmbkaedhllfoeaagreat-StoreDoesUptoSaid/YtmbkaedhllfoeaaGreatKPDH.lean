/-
  Texts of the proof, put together.
-/
import Derived.Test.YtmbkaedhllfoeaaGreatKPCI
import Derived.Test.YtmbkaedhllfoeaaGreatKPDG
import Derived.Test.YtmbkaedhllfoeaaGreatKPWr
set_option maxRecDepth 100000
set_option maxHeartbeats 4000000
set_option linter.unusedVariables false
namespace Go.Proofs.YtmbkaedhllfoeaaGreat
open Go.RowKit Go.Rst Go.Dv Go.Crc Go.Str
theorem layout8_any(n:Int)(h0: -9223372036854775808≤n)(h1:n≤9223372036854775807)(w:World):
  Calls Tryz.prog 30 #[.int .i64 n] w fun e w'=>e= .returned (.tuple #[.int .i64 (layJ n),.int .i64 (layA n)])∧w=w':=by
 by_cases h:n<64
 ·have e1:layJ n=0:=by unfold layJ;rw[if_pos h]
  have e2:layA n=0:=by unfold layA;rw[if_pos h]
  rw[e1,e2];clear e1 e2;go_enter Tryz.func30,Tryz.ntmps30;go_wp2
  go_ret2
  exact⟨rfl,rfl⟩
 ·have e1:layJ n=n.tdiv 4:=by unfold layJ;rw[if_neg h]
  have e2:layA n=(n-2-n.tdiv 4).tdiv 8:=by unfold layA;rw[if_neg h]
  obtain⟨J,hJ⟩:∃J,J=n.tdiv 4:=⟨_,rfl⟩
  have hj:0≤J∧4*J≤n:=by rw[hJ,Int.tdiv_eq_ediv_of_nonneg (by omega)];omega
  obtain⟨K,hK⟩:∃K,K=(n-2-J).tdiv 8:=⟨_,rfl⟩
  have hk:0≤K∧K≤n:=by rw[hK,Int.tdiv_eq_ediv_of_nonneg (by omega)];omega
  rw[←hJ] at e1 e2;rw[←hK] at e2;rw[e1,e2];have hw1:IntKind.i64.wrap J=J:=by rw[IntKind.wrap_i64];omega
  have hw2:IntKind.i64.wrap K=K:=by rw[IntKind.wrap_i64];omega
  have hw3:IntKind.i64.wrap (n-2)=n-2:=by rw[IntKind.wrap_i64];omega
  have hw4:IntKind.i64.wrap (n-2-J)=n-2-J:=by rw[IntKind.wrap_i64];omega
  have Hk:=hJ.symm;have hK':=hK.symm;clear hJ hK e1 e2;go_enter Tryz.func30,Tryz.ntmps30;go_wp2
  go_ret2
  exact⟨rfl,rfl⟩
theorem begin8_any(n area k:Nat)(hn:n≤4096)(ha:area≤1)(hk:k≤4096)(w:World):
  Calls Tryz.prog 81 #[.int .i64 (n:Int),.int .i64 (area:Int),.int .i64 (k:Int)] w fun e w'=>e= .returned (.int .i64 ((firstN n area+k*4:Nat):Int))∧w=w':=by
 have al:=fun X=>layout8_any (n:Int) (by omega) (by omega) X
 rw[layJ_nat,layA_nat] at al;obtain⟨J,hJ⟩:∃J,J=jN n:=⟨_,rfl⟩
 obtain⟨A,hA⟩:∃A,A=aN n:=⟨_,rfl⟩
 have hle:=aN_le n;have hF:firstN n area=2+J+area*A*4:=by rw[hJ,hA];rfl
 rw[←hJ,←hA] at hle al;obtain⟨P,hP⟩:∃P,P=area*A:=⟨_,rfl⟩
 have Dl:P≤A:=by rw[hP];exact Nat.le_trans (Nat.mul_le_mul_right A ha) (by omega)
 rw[hF,←hP];have pj:(A:Int)*(area:Int)=(P:Int):=by rw[hP];simp[Int.mul_comm]
 have HY:=qH al;have eB:((2+J+P*4+k*4:Nat):Int)=2+(J:Int)+4*((P:Int)+(k:Int)):=by omega
 rw[eB];clear al hF hJ hA hP eB;go_enter Tryz.func81,Tryz.ntmps81;go_wp2_with (go_at_call 30;refine(HY.out _).mono ?_;rintro e w1 ⟨rfl,rfl⟩)
 go_ret;exact⟨rfl,rfl⟩
theorem longC_eq(c:Chg):longC c=(decide (30<c.1.size)||decide (150<c.2.1.length)):=rfl
theorem long8_any(v:Value)(cs:List Chg)(w:World)(hv:RC w v cs):
  Calls Tryz.prog 62 #[v] w fun e w'=>e= .returned (.bool (cs.any longC))∧Below w.heap.size w w':=by
 have HV:=qH hv;obtain⟨A,c,rfl,hc1,hc2,_⟩:=hv;unfold maxLen at hc2;go_enter Tryz.func62,Tryz.ntmps62;go_wp2
 go_loopw [3] (fun i wr=>∃k:Nat,k≤cs.length∧i= .int .i64 k∧(cs.take k).any longC=false∧Below w.heap.size w wr) (fun i _=>cs.length-(intOf i).toNat)
 case atStart=>exact⟨0,Nat.zero_le _,rfl,rfl,Below.refl _ _⟩
 case round=>
  obtain⟨k,hk,rfl,db,ad⟩:=hrel;by_cases hlt:k<cs.length
  ·obtain⟨b,off,u,rfl,e1,e2,e3,e4⟩:=rc_at (rc_below HV.out ad (Nat.le_refl _)) hlt
   have wj:=qH db;have fy:=qH ad;have hst:(cs.take (k+1)).any longC=longC cs[k]:=by rw[List.take_succ_eq_append_getElem hlt,List.any_append,db];simp
   have kC:longC cs[k]=true→cs.any longC=true:=fun h=>List.any_eq_true.2 ⟨_,List.getElem_mem hlt,h⟩
   have HST:=qH hst;have qb:=qH kC;obtain⟨Au,cu,rfl,_,kf,_⟩:=e3;unfold maxLen at kf;generalize hx:cs[k]=x at *;have q1:(0:Int)≤(k:Int):=by omega
   have q2:(k:Int)<cs.length:=by omega
   clear db ad hst kC hx;by_cases h1:30<x.1.size
   ·have HL:=qH (qb.out (by rw[longC_eq,decide_eq_true h1];rfl))
    have h1':(30:Int)<(x.1.size:Int):=by omega
    clear h1;go_wp2;go_ret;exact⟨by rw[HL.out];rfl,fy.out⟩
   ·have h1':¬(30:Int)<(x.1.size:Int):=by omega
    by_cases h2:150<x.2.1.length
    ·have HL:=qH (qb.out (by rw[longC_eq,decide_eq_true h2];simp))
     have h2':(150:Int)<(x.2.1.length:Int):=by omega
     clear h1 h2;go_wp2;go_ret;exact⟨by rw[HL.out];rfl,fy.out⟩
    ·have HL:=qH (HST.out.trans (show longC x=false by rw[longC_eq,decide_eq_false h1,decide_eq_false h2];rfl))
     have h2':¬(150:Int)<(x.2.1.length:Int):=by omega
     clear h1 h2;go_wp2;go_roundw
     case rel=>exact⟨k+1,by omega,by go_num,HL.out,fy.out⟩
     case measure=>simp[intOf];omega
  ·obtain rfl:k=cs.length:=by omega
   rw[List.take_length] at db;have wj:=qH db;have fy:=qH ad;clear db ad;go_wp2;go_ret;exact⟨by rw[wj.out];rfl,fy.out⟩
theorem nine_sets(a0 a1 a2 a3 a4 a5 a6 a7 a8:Value):(((((((((bvs (List.replicate 60 0)).set 0 a0).set 1 a1).set 2 a2).set 3 a3).set 4 a4).set 5 a5).set 6 a6).set 7 a7).set 8 a8= [a0,a1,a2,a3,a4,a5,a6,a7,a8]++bvs (List.replicate 51 0):=rfl
theorem head8_any(ep ar pg:Nat)(he:ep≤1073741824)(ha:ar≤1)(hp:pg≤65535)(w:World):
  Calls Tryz.prog 82 #[.int .i64 (ep:Int),.int .i64 (ar:Int),.int .i64 (pg:Int)] w (NewB 5 w (Str.headL ep ar pg)):=by
 obtain⟨i5,hi5,jv,hs5,au⟩:=info_parts info5;have kS:=qH hi5;have lA:=qH jv;have iF:=qH hs5;have ax:=qH au;clear hi5 jv hs5 au;have hN:=nine_cells (ep:=ep) (ar:=ar) (pg:=pg) (by omega);rw[show(ep:Int)/16777216%256=(ep:Int)/16777216 by omega,show(pg:Int)/256%256=(pg:Int)/256 by omega] at hN;have HN:=qH hN;clear hN;go_enter Tryz.func82,Tryz.ntmps82;go_wp2_with (refine wpList_make_full _ rfl (.const (.int .i64 60)) (.const (.int .i64 60)) 46 rfl 0 5 i5 (.int .u8 0) 1 Tryz.underlying46 kS.out lA.out iF.out .i64 .i64 60 60 60 rfl rfl rfl rfl (by rw[ax.out];omega) (by unfold maxLen;omega) (Nat.zero_le _) ?_)
 intro w1 hown1 hgrow1;have hx0:(madeCells #[Value.int .u8 0] 60).toList=bvs (List.replicate 60 0):=by
  rw[toList_madeCells_one];simp[bvs,bv]
 rw[hx0] at hown1;have iO:=qH hown1;have wR:=qH hgrow1;have hc:∀j,j<60→w1.cell? ⟨w.heap.size,j,none⟩=some (.int .u8 0):=fun j hj=>by
  rw[hown1.cellAt j (by omega),bvs_get (by rw[List.length_replicate];exact hj),List.getElem_replicate];rfl
 have ay:=fun j=>hown1.frozenAt j
 have hc0:=hc 0 (by omega);have hc1:=hc 1 (by omega);have hc2:=hc 2 (by omega);have hc3:=hc 3 (by omega);have Ay:=hc 4 (by omega);have lW:=hc 5 (by omega);have wn:=hc 6 (by omega);have zY:=hc 7 (by omega);have ra:=hc 8 (by omega);clear hc hx0 hown1 hgrow1;go_wp2_with fail
 obtain⟨W2,hW2⟩:∃W2,W2=(((((((((w1.setCell ⟨w.heap.size,0,none⟩ (.int .u8 82)).setCell ⟨w.heap.size,1,none⟩ (.int .u8 83)).setCell ⟨w.heap.size,2,none⟩ (.int .u8 ((ep:Int)/16777216))).setCell ⟨w.heap.size,3,none⟩ (.int .u8 ((ep:Int)/65536%256))).setCell ⟨w.heap.size,4,none⟩ (.int .u8 ((ep:Int)/256%256))).setCell ⟨w.heap.size,5,none⟩ (.int .u8 ((ep:Int)%256))).setCell ⟨w.heap.size,6,none⟩ (.int .u8 (ar:Int))).setCell ⟨w.heap.size,7,none⟩ (.int .u8 ((pg:Int)/256))).setCell ⟨w.heap.size,8,none⟩ (.int .u8 ((pg:Int)%256))):=⟨_,rfl⟩
 rw[←hW2];have aQ:W2.ownsRow 0 5 1 (.slice (some ⟨w.heap.size,0,none⟩) 60 60) 60 (bvs (Str.headP ep ar pg)):=by
  have h9:=(((((((((iO.out.stored 0 (.int .u8 82)).1.stored 1 (.int .u8 83)).1.stored 2 (.int .u8 ((ep:Int)/16777216))).1.stored 3 (.int .u8 ((ep:Int)/65536%256))).1.stored 4 (.int .u8 ((ep:Int)/256%256))).1.stored 5 (.int .u8 ((ep:Int)%256))).1.stored 6 (.int .u8 (ar:Int))).1.stored 7 (.int .u8 ((pg:Int)/256))).1.stored 8 (.int .u8 ((pg:Int)%256))).1;rw[nine_sets] at h9;have e: [Value.int .u8 82,.int .u8 83,.int .u8 ((ep:Int)/16777216),.int .u8 ((ep:Int)/65536%256),.int .u8 ((ep:Int)/256%256),.int .u8 ((ep:Int)%256),.int .u8 (ar:Int),.int .u8 ((pg:Int)/256),.int .u8 ((pg:Int)%256)]=bvs (Str.headB ep ar pg):=by
   have h8:=congrArg Array.toList HN.out
   simpa using h8
  rw[e,←bvs_append] at h9;rw[hW2];exact h9
 have bg:Below w.heap.size w W2:=by
  have h1:Fr (fun _=>False) w w1:=Fr.of_below ((Below.refl _ _).grown wR.out (Nat.le_refl _) (fun z hz=>by cases hz));have h2:Fr (fun _=>False) w W2:=by
   rw[hW2];exact((((((((h1.setCell (p:=⟨w.heap.size,0,none⟩) (.inr (Nat.le_refl _)) _).setCell (p:=⟨w.heap.size,1,none⟩) (.inr (Nat.le_refl _)) _).setCell (p:=⟨w.heap.size,2,none⟩) (.inr (Nat.le_refl _)) _).setCell (p:=⟨w.heap.size,3,none⟩) (.inr (Nat.le_refl _)) _).setCell (p:=⟨w.heap.size,4,none⟩) (.inr (Nat.le_refl _)) _).setCell (p:=⟨w.heap.size,5,none⟩) (.inr (Nat.le_refl _)) _).setCell (p:=⟨w.heap.size,6,none⟩) (.inr (Nat.le_refl _)) _).setCell (p:=⟨w.heap.size,7,none⟩) (.inr (Nat.le_refl _)) _).setCell (p:=⟨w.heap.size,8,none⟩) (.inr (Nat.le_refl _)) _
  exact h2.below (fun _ h=>h.elim) (Nat.le_refl _)
 have bZ:RB W2 (.slice (some ⟨w.heap.size,0,none⟩) 60 60) (Str.headP ep ar pg):=RB.own (base:=0) (e:=5) (by rw[Str.headP_length];exact aQ);have hcall:=refSeal_any _ _ W2 bZ (by rw[Str.headP_length];omega);have HC:=qH hcall;have ae:=qH bg;clear hcall bg bZ aQ hW2 hc0 hc1 hc2 hc3 Ay lW wn zY ra ay;refine HC.out.mono ?_;rintro e w4⟨v4,rfl,bH,hb4⟩;have mg:=own_base bH ae.out.size;have HO:=qH mg;have ai:=qH (ae.out.trans (hb4.mono ae.out.size));clear bH hb4 mg;go_wp2;go_ret;exact⟨_,rfl,HO.out,ai.out⟩
end Go.Proofs.YtmbkaedhllfoeaaGreat
