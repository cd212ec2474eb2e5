/-
  Texts of the proof, put together.
-/
import Derived.Test.YtmbkaedhllfoeaaGreatKPCG
import Derived.Test.YtmbkaedhllfoeaaGreatKPDE
import Derived.Test.YtmbkaedhllfoeaaGreatKPWr
set_option maxRecDepth 100000
set_option maxHeartbeats 4000000
set_option linter.unusedVariables false
namespace Go.Proofs.YtmbkaedhllfoeaaGreat
open Go.RowKit Go.Rst Go.Dv Go.Crc Go.Str
abbrev Hd:Type:=Nat×Nat×Nat
def updH(last:Hd)(l:List UInt8)(most:Nat):Hd:=if Str.hOk l most=true∧last.1<Str.hEp l then (Str.hEp l,Str.hAr l,Str.hPg l) else last
def newK(s:Sim):Nat→Hd
 |0=>(0,0,0)
 |k+1=>updH (newK s k) (s.read k) (aN s.firm.length)
def hv3(x:Hd):Array Value:=#[.int .i64 (x.1:Int),.int .i64 (x.2.1:Int),.int .i64 (x.2.2:Int)]
theorem fr_three(W:World)(b:Nat)(a0 a1 a2:Value):Fr (fun j=>j=b) W (((W.setCell ⟨b,0,none⟩ a0).setCell ⟨b,1,none⟩ a1).setCell ⟨b,2,none⟩ a2):=
 Fr.setCell (p:=⟨b,2,none⟩) (Fr.setCell (p:=⟨b,1,none⟩) (Fr.setCell (p:=⟨b,0,none⟩) (Fr.refl (fun j=>j=b) W) (.inl rfl) a0) (.inl rfl) a1) (.inl rfl) a2
theorem newest_any{D:Nat→Prop}{w:World}{v:Value}{s:Sim}(h:Dev D w v s)(hn:64≤s.firm.length):
  Calls Tryz.prog 45 #[dv v] w fun e w'=>e= .returned (.tuple #[.agg (hv3 (newK s 2)),.bool (decide (0<(newK s 2).1))])∧Below w.heap.size w w':=by
 have HN:=h.ok.n;have bq:=qH h.ok;have H:=qH h;obtain⟨g,rfl⟩:=dev_ptr h;obtain⟨n,hne⟩:∃n,n=s.firm.length:=⟨_,rfl⟩
 have hlen:=fun X (hX:Dev D X (.pointer (some ⟨g,0,none⟩)) s)=>len_any hX
 rw[←hne] at hlen hn HN;have HL:=qH hlen;have al:=fun X=>layout_any (n:Int) (by omega) (by omega) X
 rw[layJ_nat,layA_nat] at al;have HY:=qH al;obtain⟨A,hA⟩:∃A,A=aN n:=⟨_,rfl⟩
 have IZ:A≤600:=by have:=aN_le n;omega
 rw[←hA] at HY;have HA:=qH hA;have fZ:=qH hne;clear h hlen al hA hne;have hb1:Below w.heap.size w (w.alloc (.cells #[.int .i64 0,.int .i64 0,.int .i64 0] 91)):=(Below.refl _ _).alloc (Nat.le_refl _) _;have an:=qH hb1;clear hb1;go_enter Tryz.func45,Tryz.ntmps45;go_wp2_with (first|(go_at_call 38;refine(HL.out _ (H.out.below an.out)).mono ?_;rintro e w1 ⟨rfl,rfl⟩)|(go_at_call 29;refine(HY.out _).mono ?_;rintro e w1 ⟨rfl,rfl⟩))
 obtain⟨Z,hZ⟩:∃Z,Z=Obj.cells #[.int .i64 0,.int .i64 0,.int .i64 0] 91:=⟨_,rfl⟩
 rw[←hZ];have hb2:Below w.heap.size w ((w.alloc Z).alloc Z):=((Below.refl _ _).alloc (Nat.le_refl _) _).alloc (by simp) _;have hz2:((w.alloc Z).alloc Z).heap.size=w.heap.size+2:=by simp
 have k2:Dv.Blk ((w.alloc Z).alloc Z) w.heap.size 91 (hv3 (0,0,0)):=(Below.heap_alloc _ _ _ (by simp)).trans (by rw[hZ];exact heap_alloc_new w _);have k6:Dv.Blk ((w.alloc Z).alloc Z) (w.heap.size+1) 91 (hv3 (0,0,0)):=by have h:=heap_alloc_new (w.alloc Z) Z;rw[World.size_alloc] at h;unfold Dv.Blk;rw[h,hZ];rfl
 have fk:=rd_any 0 2 (H.out.below hb2) (by rw[←fZ.out];omega);rw[hz2] at fk;obtain⟨W2,hW2⟩:∃W2,W2=(w.alloc Z).alloc Z:=⟨_,rfl⟩
 rw[←hW2] at hb2 k2 k6 fk hz2⊢;have dB:=qH fk;have ae:=qH hb2;have K2:=qH k2;have K6:=qH k6;have jz:=qH hz2;clear hb2 k2 k6 fk hZ hW2 hz2;refine dB.out.mono ?_;rintro e w3⟨pv,rfl,hop,hb3⟩;have iV:=hop.pn;obtain⟨Ap,cp,hpv,j8,i9⟩:=hop.shape;rw[secsL_len] at hpv i9;subst hpv;have iE:=qH iV;have ak:=qH (ae.out.trans (hb3.mono (Nat.le_add_right _ _)));have JG:=qH (K2.out.below hb3 (by omega));have Ii:=qH (K6.out.below hb3 (by omega));have jg:w.heap.size+2≤w3.heap.size:=by have h1:=hb3.size;have h2:=jz.out;omega
 clear hop hb3 iV;go_wp2
 go_loopw [20] (fun i wr=>∃k:Nat,k≤2∧i= .int .i64 k∧Dv.Blk wr w.heap.size 91 (hv3 (0,0,0))∧Dv.Blk wr (w.heap.size+1) 91 (hv3 (newK s k))∧PN wr (w.heap.size+2) (.slice Ap 2 cp) (secsL s 0 2)∧Below w.heap.size w wr) (fun i _=>2-(intOf i).toNat)
 case atStart=>exact⟨0,Nat.zero_le _,rfl,JG.out,Ii.out,iE.out,ak.out⟩
 case round=>
  obtain⟨k,hk,rfl,r2,r6,rp,rb⟩:=hrel;by_cases hlt:k<2
  ·obtain⟨b,off,u,rfl,hu,bi,_⟩:=pn_at rp (k:=k) (by rw[secsL_len];exact hlt)
   have hsk:(secsL s 0 2)[k]'(by rw[secsL_len];exact hlt)=s.read k:=by simp[secsL]
   rw[hsk] at bi;have hrl:=bq.out.read (i:=k) (by rw[←fZ.out];omega);have xl:=bi;obtain⟨Au,cu,ve,_⟩:=bi;rw[hrl] at ve;subst ve;have bi:RB wr (.slice Au 64 cu) (s.read k):=xl;have hcall:=rdHead_any _ _ A wr bi hrl IZ;have HC:=qH hcall;have HU:=qH hu;have RP:=qH rp;have mG:=qH rb;have R2:=qH r2;have R6:=qH r6;have xm:w.heap.size+1<wr.heap.size:=r6.lt;clear hcall bi xl hrl hsk rp rb r2 r6;have hu:=HU.out;go_wp2_with fail
   go_at_call 84;refine HC.out.mono ?_;rintro e w5⟨rfl,au⟩;have ax:=qH au;have hs5:=au.size;have pS:¬w5.heap.size=w.heap.size+1:=by omega
   have sh:¬w.heap.size+1=w5.heap.size:=by omega
   clear au hu;obtain⟨x,hx⟩:∃x:Hd,x=newK s k:=⟨_,rfl⟩
   obtain⟨y,hy⟩:∃y:Hd,y=(Str.hEp (s.read k),Str.hAr (s.read k),Str.hPg (s.read k)):=⟨_,rfl⟩
   have hy1:Str.hEp (s.read k)=y.1:=by rw[hy]
   have hy2:Str.hAr (s.read k)=y.2.1:=by rw[hy]
   have DW:Str.hPg (s.read k)=y.2.2:=by rw[hy]
   rw[hy1,hy2,DW];have hnx:newK s (k+1)=if Str.hOk (s.read k) A=true∧x.1<y.1 then y else x:=by
    show updH (newK s k) (s.read k) (aN s.firm.length)=_;unfold updH;rw[←hx,←fZ.out,←HA.out,hy1,hy2,DW]
   obtain⟨ok,hok⟩:∃ok,ok=Str.hOk (s.read k) A:=⟨_,rfl⟩
   rw[←hok] at hnx⊢;have iM:=qH hnx;have HX:=qH hx;have ka:=(R6.out.below ax.out R6.out.lt).alloc (.cells #[.int .i64 (y.1:Int),.int .i64 (y.2.1:Int),.int .i64 (y.2.2:Int)] 91);have q0:=ka.cell 0;have q1:=ka.cell 1;have q2:=ka.cell 2;have z0:=ka.frozen 0;have z1:=ka.frozen 1;have z2:=ka.frozen 2;unfold hv3 at q0 q1 q2;simp only[List.getElem?_toArray,List.getElem?_cons_zero,List.getElem?_cons_succ] at q0 q1 q2;rw[←hx] at q0 q1 q2;clear hnx hx hy hy1 hy2 DW hok ka
   cases ok with
   |false=>
    have hnn:newK s (k+1)=x:=by rw[iM.out,if_neg (by simp)]
    have ll:=qH hnn;clear hnn;go_wp2;go_roundw
    case rel=>exact⟨k+1,by omega,by go_num,(R2.out.below ax.out R2.out.lt).alloc _,by rw[ll.out,HX.out];exact(R6.out.below ax.out R6.out.lt).alloc _,(RP.out.below ax.out).below ((Below.refl _ _).alloc (Nat.le_refl _) _),(mG.out.trans (ax.out.mono mG.out.size)).alloc (by have:=mG.out.size;omega) _⟩
    case measure=>simp[intOf];omega
   |true=>
    by_cases hxy:x.1<y.1
    ·have hnn:newK s (k+1)=y:=by rw[iM.out,if_pos ⟨rfl,hxy⟩]
     have ll:=qH hnn;have Ke:(x.1:Int)<(y.1:Int):=by omega
     clear hnn;go_wp2;go_roundw
     case rel=>
      exact⟨k+1,by omega,by go_num,((((R2.out.below ax.out R2.out.lt).alloc _).far (by simp) _).far (by simp) _).far (by simp) _,by rw[ll.out];exact((((R6.out.below ax.out R6.out.lt).alloc _).set_ 0 _).set_ 1 _).set_ 2 _,((RP.out.below ax.out).below ((Below.refl _ _).alloc (Nat.le_refl _) _)).fr (fr_three _ (w.heap.size+1) (.int .i64 (y.1:Int)) (.int .i64 (y.2.1:Int)) (.int .i64 (y.2.2:Int))) (by rintro j rfl;omega),((((mG.out.trans (ax.out.mono mG.out.size)).alloc (by have:=mG.out.size;omega) _).setCell (Nat.le_succ _) _).setCell (Nat.le_succ _) _).setCell (Nat.le_succ _) _⟩
     case measure=>simp[intOf];omega
    ·have hnn:newK s (k+1)=x:=by rw[iM.out,if_neg (by simp[hxy])]
     have ll:=qH hnn;have Ke:¬(x.1:Int)<(y.1:Int):=by omega
     clear hnn;go_wp2;go_roundw
     case rel=>exact⟨k+1,by omega,by go_num,(R2.out.below ax.out R2.out.lt).alloc _,by rw[ll.out,HX.out];exact(R6.out.below ax.out R6.out.lt).alloc _,(RP.out.below ax.out).below ((Below.refl _ _).alloc (Nat.le_refl _) _),(mG.out.trans (ax.out.mono mG.out.size)).alloc (by have:=mG.out.size;omega) _⟩
     case measure=>simp[intOf];omega
  ·have hk2:k=2:=by omega
   subst hk2;have R2:=qH r2;have R6:=qH r6;have mG:=qH rb;have c0:=r6.cell 0;unfold hv3 at c0;simp at c0;obtain⟨x,hx⟩:∃x:Hd,x=newK s 2:=⟨_,rfl⟩
   rw[←hx] at c0 R6;have Ih:=qH hx;clear hx r2 r6 rp rb;go_wp2;refine wp_region_held_drew (S:=fun X=>Dv.Blk X (w.heap.size+1) 91 #[.int .i64 (x.1:Int),.int .i64 (x.2.1:Int),.int .i64 (x.2.2:Int)]) (by kernel_rfl) R6.out (fun hHeld=>?_);refine tkA 0 (v:=?_) ?_ ?_;rotate_left
   ·intro X hSw;have z0:=hSw.cell 0;have z1:=hSw.cell 1;have z2:=hSw.cell 2;simp at z0 z1 z2;go_simp;try (with_reducible rfl)
   try simp only[Act.put,zA,zB,zC]
   refine tkC 1 ?_;refine tkA 2 (v:=?_) ?_ ?_;rotate_left
   ·intro X hSw;have z0:=hSw.cell 0;have z1:=hSw.cell 1;have z2:=hSw.cell 2;simp at z0 z1 z2;go_simp;try (with_reducible rfl)
   try simp only[Act.put,zA,zB,zC]
   refine tkC 3 ?_;refine rdA (rs:= [4]) ?_;refine arC (fun K hK=>?_);have f0:=R2.out.frozen 0;have f1:=R2.out.frozen 1;have f2:=R2.out.frozen 2;have p0:=R2.out.cell 0;have p1:=R2.out.cell 1;have p2:=R2.out.cell 2;unfold hv3 at p0 p1 p2;simp at p0 p1 p2;go_simp;clear f0 f1 f2 p0 p1 p2;have ac:=(show Dv.Blk ((((wr.setCell ⟨w.heap.size,0,none⟩ (.int .i64 (x.1:Int))).setCell ⟨w.heap.size,1,none⟩ (.int .i64 (x.2.1:Int))).setCell ⟨w.heap.size,2,none⟩ (.int .i64 (x.2.2:Int))).drew) (w.heap.size+1) 91 #[.int .i64 (x.1:Int),.int .i64 (x.2.1:Int),.int .i64 (x.2.2:Int)] from((R6.out.far (by simp) _).far (by simp) _).far (by simp) _)
   refine hK.out _ _ ?_ (fun _=>?_)
   ·exact ac
   clear hK K hHeld;have hHeld:=ac;clear ac;try simp only[Act.put,zA,zB,zC]
   refine tkC 5 ?_;refine wpAnyH_done (by kernel_rfl) ?_ _;have hb2:Dv.Blk ((((wr.setCell ⟨w.heap.size,0,none⟩ (.int .i64 (x.1:Int))).setCell ⟨w.heap.size,1,none⟩ (.int .i64 (x.2.1:Int))).setCell ⟨w.heap.size,2,none⟩ (.int .i64 (x.2.2:Int))).drew) w.heap.size 91 #[.int .i64 (x.1:Int),.int .i64 (x.2.1:Int),.int .i64 (x.2.2:Int)]:=((R2.out.set_ 0 _).set_ 1 _).set_ 2 _;have hbl:Below w.heap.size w ((((wr.setCell ⟨w.heap.size,0,none⟩ (.int .i64 (x.1:Int))).setCell ⟨w.heap.size,1,none⟩ (.int .i64 (x.2.1:Int))).setCell ⟨w.heap.size,2,none⟩ (.int .i64 (x.2.2:Int))).drew):=(((mG.out.setCell (Nat.le_refl _) _).setCell (Nat.le_refl _) _).setCell (Nat.le_refl _) _).drew;obtain⟨W3,hW3⟩:∃W3,W3=(((wr.setCell ⟨w.heap.size,0,none⟩ (.int .i64 (x.1:Int))).setCell ⟨w.heap.size,1,none⟩ (.int .i64 (x.2.1:Int))).setCell ⟨w.heap.size,2,none⟩ (.int .i64 (x.2.2:Int))).drew:=⟨_,rfl⟩
   rw[←hW3] at hb2 hbl⊢;have H2:=qH hb2;have fy:=qH hbl;clear hW3 hb2 hbl hHeld;go_wp2;refine bodyPost_ret (leaveNW rfl rfl H2.out) rfl ?_;refine⟨?_,fy.out⟩;rw[←Ih.out];rfl
end Go.Proofs.YtmbkaedhllfoeaaGreat
