/-
  Texts of the proof, put together.
-/
import Derived.Deep.RegionLaw
import Derived.Shelf.RegionOpenPlain
import Derived.Lib.Walk
import Derived.Lib.Overlaps
import Derived.Laws.Externs
import Derived.Test.YtmbkaedhllfoeaaGreatKPEE
import Derived.Test.YtmbkaedhllfoeaaGreatKPWr
set_option maxRecDepth 100000
set_option maxHeartbeats 4000000
set_option linter.unusedVariables false
namespace Go.Proofs.YtmbkaedhllfoeaaGreat
open Go.RowKit Go.Rst Go.Pg Go.Crc Go.Lib
theorem rowCells_mid(us:List (ByteArray×List UInt8×Value))(i:Nat)(k:ByteArray)(l:List UInt8)(u:Value):rowCells (us.take i++(k,l,u)::us.drop i)=(rowCells us).take (i*2)++ [.string k,u]++(rowCells us).drop (i*2):=by
 rw[rowCells_append,rowCells_take,rowCells_drop];simp[rowCells]
def GivesIns(w:World)(base:Nat)(r:List Rw)(e:Ending)(w':World):Prop:=∃v',e= .returned v'∧OR 5 78 w' base v' r∧Below base w w'
theorem insert_shift(base i g n cap vb:Nat)(cur:Array Value)(us:List (ByteArray×List UInt8×Value))(k:ByteArray)(u:Value)(l:List UInt8)(w:World)
  (hbg:base≤g) (hg:w.heap[g]? =some (.cells cur 78 (0,0))) (hn:n=us.length) (hcm:cap≤maxLen) (hcs:cur.size=cap*2) (htk:cur.toList.take (n*2)=rowCells us) (bC:∀x∈us,FB 5 w base x.2.2 x.2.1)
  (hi:i<n) (hroom:n+1≤cap) (hvb:w.heap[vb]? =some (.cells #[.string k,u] 78 (0,0))) (hvg:vb≠g) (hu:FB 5 w base u l):
  Calls Tryz.prog 95 #[.slice (some ⟨g,0,none⟩) n cap,.int .i64 i,.slice (some ⟨vb,0,none⟩) 1 1] w (GivesIns w base ((us.take i++(k,l,u)::us.drop i).map (fun x=>(x.1,x.2.1)))):=by
 obtain⟨m,hm⟩:∃m,m=1:=⟨_,rfl⟩
 rw[show(Value.slice (some ⟨vb,0,none⟩) 1 1)= .slice (some ⟨vb,0,none⟩) m m by rw[hm]];have hcell:∀j,j<n*2→w.cell? ⟨g,j,none⟩=(rowCells us)[j]? :=fun j hj=>by
  rw[cell_of_row _ g j cur 78 (0,0) hg,←htk,List.getElem?_take,if_pos hj,Array.getElem?_toList]
 have hsome:∀j,j<cap*2→(w.cell? ⟨g,j,none⟩).isSome=true:=fun j hj=>by
  rw[cell_of_row _ g j cur 78 (0,0) hg,Array.getElem?_eq_getElem (by omega)];rfl
 have hfz:∀j,w.frozen? ⟨g,j,none⟩=false:=fun j=>by simp[World.frozen?,hg]
 have hone:=rows_one bC;obtain⟨i0,hi0,hz0,hz1,hz2⟩:=info_parts info78;have hsz:(Tryz.prog.info? 78).map (·.size)=some 2:=by rw[hi0];simp[hz1]
 have hrl:=rowCells_length us;obtain⟨D,hD⟩:∃D,D=(rowCells us).drop (i*2):=⟨_,rfl⟩
 have ri:D.length=(n-i)*2:=by rw[hD,List.length_drop,hrl,←hn];omega
 obtain⟨vs,hvs⟩:∃vs:List Value,vs= [.string k,u]:=⟨_,rfl⟩
 have hvl:vs.length=m*2:=by rw[hvs,hm];rfl
 have sK:∀x∈vs,x.oneCell'=true:=by
  intro x hx;rw[hvs] at hx;simp only[List.mem_cons,List.not_mem_nil,or_false] at hx;rcases hx with rfl|rfl
  ·rfl
  ·exact fb_one hu
 have xU:∀j x,vs[j]? =some x→w.cell? ⟨vb,j,none⟩=some x:=fun j x hx=>by
  rw[cell_of_row _ vb j _ 78 (0,0) hvb,List.getElem?_toArray,←hvs];exact hx
 have hsa:w.shape? vb=some (78,2):=by simp[World.shape?,hvb]
 have GC:w.shape? g=some (78,cap*2):=by simp[World.shape?,hg,hcs]
 have hov:∀lb cb,(callFunc 130 #[.slice (some ⟨vb,0,none⟩) m m,.slice (some ⟨g,(i+m)*2,none⟩) lb cb]).run Tryz.prog w= .ok (.value (.bool false)) w:=fun lb cb=>by
  rw[run_callFunc_extern Tryz.func130 (by kernel_rfl) (by kernel_rfl) (by kernel_rfl) (e:=Extern.SlicesOverlaps.overlaps #[40,40] #[4]) (by kernel_rfl),
   Lib.run_overlaps_apart w 40 4 78 Tryz.underlying40 2 (fun w=>by simp[sizeOf,typeInfo,hi0,hz1]) ⟨vb,0,none⟩ ⟨g,(i+m)*2,none⟩ m m lb cb hvg 78 78 2 (cap*2) hsa GC (by omega) (by simp[World.frozen?,hvb]) (by simp[World.frozen?,hvb])]
  rfl
 have wK:∀ty dc sc,(Builtin.copy_ #[40,40] ty #[.slice (some ⟨g,(i+m)*2,none⟩) (n+m-(i+m)) dc,.slice (some ⟨g,i*2,none⟩) (n+m-i) sc]).run Tryz.prog w.drew= .ok (goInt ((n-i:Nat):Int)) (w.drew.setCells g ((i+m)*2) D):=fun ty dc sc=>
  run_copyS w.drew _ _ ty 78 2 g ((i+m)*2) (n+m-(i+m)) dc ⟨g,i*2,none⟩ (n+m-i) sc (n-i) D Tryz.underlying40 hsz (by simp only[Nat.min_def];split <;>omega) ri
   (fun j x hj=>by
    have:=(List.getElem?_eq_some_iff.1 hj).1;rw[Addr.add_lit];exact(hcell (i*2+j) (by omega)).trans (by rw[hD,List.getElem?_drop] at hj;exact hj))
   (fun j hj=>hsome _ (by omega)) (fun j _=>hfz _) (fun x hx=>hone x (by rw[hD] at hx;exact List.mem_of_mem_drop hx))
 obtain⟨W1,hW1⟩:∃W1,W1=w.drew.setCells g ((i+m)*2) D:=⟨_,rfl⟩
 have pi:∀x∈D,x.oneCell'=true:=fun x hx=>hone x (by rw[hD] at hx;exact List.mem_of_mem_drop hx)
 have qn:=setCells_row (w:=w.drew) (vs:=D) (cur:=cur) (o:=(i+m)*2) (t:=78) hg (by rw[ri];omega) pi;have vw:=Array.length_toList (xs:=cur);have hsl:=splice_len (L:=cur.toList) (vs:=D) (o:=(i+m)*2) (by omega);have ey:W1.heap[g]? =some (.cells (splice cur.toList ((i+m)*2) D).toArray 78 (0,0)):=by
  rw[hW1,qn];exact setRow_heap _ _ _ _ _ _ (show w.drew.heap[g]? =some (.cells cur 78 (0,0)) from hg)
 have iQ:∀j,j≠g→W1.heap[j]? =w.heap[j]? :=fun j hj=>by
  rw[hW1,qn];exact setRow_other _ _ _ _ hj
 have aJ:Below base w W1:=by
  rw[hW1,qn];exact below_setRow (Below.refl base w).drew hbg _
 have Bq:∀(W:World),(∀x,W.cell? x=W1.cell? x)→(∀x,W.frozen? x=W1.frozen? x)→∀ty dc,(Builtin.copy_ #[40,40] ty #[.slice (some ⟨g,i*2,none⟩) (n+m-i) dc,.slice (some ⟨vb,0,none⟩) m m]).run Tryz.prog W= .ok (goInt m) (W.setCells g (i*2) vs):=fun W hWc hWf ty dc=>
  run_copyS W _ _ ty 78 2 g (i*2) (n+m-i) dc ⟨vb,0,none⟩ m m m vs Tryz.underlying40 hsz (by simp only[Nat.min_def];split <;>omega) hvl
   (fun j x hj=>by
    rw[Addr.add_lit,Nat.zero_add,hWc,World.cell?_of_block (a:=⟨vb,j,none⟩) (iQ vb hvg)];exact xU j x hj)
   (fun j hj=>by rw[hWc,cell_of_row _ g _ _ 78 (0,0) ey,List.getElem?_toArray,List.getElem?_eq_getElem (by omega)];rfl) (fun j _=>by rw[hWf];simp[World.frozen?,ey]) sK
 rw[←hW1] at wK;have q1:¬((m:Int)=0):=by omega
 have q2:¬((i:Int)=(n:Int)):=by omega
 have q3:IntKind.i64.wrap ((i:Int)+(m:Int))=(i:Int)+(m:Int):=by rw[IntKind.wrap_i64];unfold maxLen at hcm;omega
 have q4:(0:Int)≤(i:Int)+(m:Int):=by omega
 have q5:i≤n:=by omega
 have q6:((i:Int)+(m:Int)).toNat=i+m:=by omega
 have q7:¬(cap=i+m):=by omega
 have q8:(i:Int)≤(n:Int)+(m:Int):=by omega
 have q9:¬(cap=i):=by omega
 have Bo:n+m≤cap:=by omega
 have Em:(cap:Int)≤9223372036854775807:=by unfold maxLen at hcm;omega
 have sY:=qH iQ;have aG:=qH aJ;have ga:=qH bC;have nn:=qH htk;have HN:=qH hn;have HM:=qH hm;have HD:=qH hD;have I3:=qH hvs;have kj:=qH ey;have HU:=qH hu;have IF:=qH hvl;have Hs:=qH ri;have x7:=qH hsl;have uX:=qH hrl;have H9:=qH sK;have I4:=qH hg;have mixed:Tryz.prog.follows .mixedOrders=true:=by kernel_rfl
 clear hW1 ey iQ aJ bC htk hn hm hD hvs hu hvl ri hsl hrl hcell hsome hfz hone xU hsa GC qn pi sK hg hvb hz2 hcm hroom;go_enter Tryz.func95,Tryz.ntmps95;go_wp2_with (simp only[hov])
 go_region_law_o (refine step_copy_known rfl _ _ 40 40 rfl (by simp[Act.eval,Act.put]) (by simp[Act.eval,Act.put]) (wK _ _ _) ?_)
 go_wp2_with (at_builtin;refine wpList_copy_known rfl _ _ 40 40 rfl rfl rfl (Bq _ (fun _=>rfl) (fun _=>rfl) _ _) ?_)
 go_ret;have hn:=HN.out;have hm:=HM.out;have hvl:=IF.out;have ri:=Hs.out;have hsl:=x7.out;have eC:=setCells_row (w:=W1) (vs:=vs) (o:=i*2) kj.out (by rw[List.size_toArray];omega) H9.out;rw[eC];have hg2:=setRow_heap W1 g _ (splice (splice cur.toList ((i+m)*2) D) (i*2) vs).toArray 78 (0,0) kj.out;have mH:∀j,j≠g→(W1.setRow g (splice (splice cur.toList ((i+m)*2) D) (i*2) vs).toArray).heap[j]? =w.heap[j]? :=fun j hj=>(setRow_other _ _ _ _ hj).trans (sY.out j hj)
 have ag:=below_setRow aG.out hbg (splice (splice cur.toList ((i+m)*2) D) (i*2) vs).toArray;have jA:(splice (splice cur.toList ((i+m)*2) D) (i*2) vs).toArray.toList.take ((n+m)*2)=rowCells (us.take i++(k,l,u)::us.drop i):=by
  rw[take_splice (by omega) (by omega),rowCells_mid];have h1:=take_splice1 (L:=cur.toList) (vs:=D) (o:=(i+m)*2) (by omega);rw[show(i+m)*2+D.length=(n+m)*2 by omega] at h1;rw[h1,show(i+m)*2=i*2+m*2 by omega,List.take_add,splice_two (by rw[List.length_take];omega) (by rw[List.length_take,List.length_drop];omega) rfl,I3.out,HD.out]
  congr 2
  rw[←nn.out,List.take_take,Nat.min_eq_left (by omega)]
 have tM:=splice_len (L:=splice cur.toList ((i+m)*2) D) (vs:=vs) (o:=i*2) (by omega);refine⟨_,rfl,OR.mk_ hbg hg2 (by rw[List.length_append,List.length_cons,List.length_take,List.length_drop];omega) Bo (by unfold maxLen;omega) (by rw[List.size_toArray];omega) jA (fun x hx=>fb_far I4.out mH ?_),ag⟩;rcases List.mem_append.1 hx with hx|hx
 ·exact ga.out x (List.mem_of_mem_take hx)
 ·rcases List.mem_cons.1 hx with rfl|hx
  ·exact HU.out
  ·exact ga.out x (List.mem_of_mem_drop hx)
theorem insert_grow(base i g n cap vb:Nat)(cur:Array Value)(us:List (ByteArray×List UInt8×Value))(k:ByteArray)(u:Value)(l:List UInt8)(w:World)
  (hbg:base≤g) (hg:w.heap[g]? =some (.cells cur 78 (0,0))) (hn:n=us.length) (hnc:n≤cap) (hcm:cap≤maxLen) (htk:cur.toList.take (n*2)=rowCells us) (bC:∀x∈us,FB 5 w base x.2.2 x.2.1)
  (hi:i<n) (hroom:cap<n+1) (hlim:n≤3000000000001) (hvb:w.heap[vb]? =some (.cells #[.string k,u] 78 (0,0))) (hu:FB 5 w base u l):
  Calls Tryz.prog 95 #[.slice (some ⟨g,0,none⟩) n cap,.int .i64 i,.slice (some ⟨vb,0,none⟩) 1 1] w (GivesIns w base ((us.take i++(k,l,u)::us.drop i).map (fun x=>(x.1,x.2.1)))):=by
 obtain⟨m,hm⟩:∃m,m=1:=⟨_,rfl⟩
 rw[show(Value.slice (some ⟨vb,0,none⟩) 1 1)= .slice (some ⟨vb,0,none⟩) m m by rw[hm]];have hcell:∀j,j<n*2→w.cell? ⟨g,j,none⟩=(rowCells us)[j]? :=fun j hj=>by
  rw[cell_of_row _ g j cur 78 (0,0) hg,←htk,List.getElem?_take,if_pos hj,Array.getElem?_toList]
 have hone:=rows_one bC;obtain⟨i0,hi0,hz0,hz1,hz2⟩:=info_parts info78;have hsz:(Tryz.prog.info? 78).map (·.size)=some 2:=by rw[hi0];simp[hz1]
 have hrl:=rowCells_length us;obtain⟨D,hD⟩:∃D,D=(rowCells us).drop (i*2):=⟨_,rfl⟩
 have ri:D.length=(n-i)*2:=by rw[hD,List.length_drop,hrl,←hn];omega
 obtain⟨hA,zP⟩:∃hA,hA=(rowCells us).take (i*2):=⟨_,rfl⟩
 have hal:hA.length=i*2:=by rw[zP,List.length_take,hrl,←hn];omega
 obtain⟨vs,hvs⟩:∃vs:List Value,vs= [.string k,u]:=⟨_,rfl⟩
 have hvl:vs.length=m*2:=by rw[hvs,hm];rfl
 have sK:∀x∈vs,x.oneCell'=true:=by
  intro x hx;rw[hvs] at hx;simp only[List.mem_cons,List.not_mem_nil,or_false] at hx;rcases hx with rfl|rfl
  ·rfl
  ·exact fb_one hu
 have xU:∀j x,vs[j]? =some x→w.cell? ⟨vb,j,none⟩=some x:=fun j x hx=>by
  rw[cell_of_row _ vb j _ 78 (0,0) hvb,List.getElem?_toArray,←hvs];exact hx
 have qU:g<w.heap.size:=(Array.getElem?_eq_some_iff.1 hg).1;have FF:vb<w.heap.size:=(Array.getElem?_eq_some_iff.1 hvb).1;have hold:(Builtin.firstCells i0.size i (.slice (some ⟨g,0,none⟩) i cap)).run Tryz.prog w.drew= .ok hA.toArray w.drew:=by
  rw[hz1];exact run_firstCells_some w.drew 2 i ⟨g,0,none⟩ i cap hA hal (fun j x hj=>by
   have hlt:=(List.getElem?_eq_some_iff.1 hj).1;rw[Addr.add_lit,Nat.zero_add];rw[zP,List.getElem?_take,if_pos (by omega)] at hj;exact(hcell j (by omega)).trans hj)
 have hkk:(n:Int)+(m:Int)-(i:Int)=((n+m-i:Nat):Int):=by omega
 have hik:i+(n+m-i)=n+m:=by omega
 obtain⟨G,hG⟩:∃G,G=grownCap w (n+m) cap 78:=⟨_,rfl⟩
 obtain⟨Z,hZ⟩:∃Z:Array Value,Z=#[.string ⟨#[]⟩,.slice none 0 0]:=⟨_,rfl⟩
 have Bp:Z.size=2:=by rw[hZ];rfl
 obtain⟨ROW,px⟩:∃ROW:Array Value,ROW=hA.toArray++Builtin.zeroCells Z (n+m-i)++Builtin.zeroCells Z (G-(n+m)):=⟨_,rfl⟩
 have Iu:n+m≤G:=by rw[hG];exact grownCap_ge w _ _ _
 have Ek:ROW.size=G*2:=by
  rw[px,Array.size_append,Array.size_append,size_zeroCells,size_zeroCells,Bp,List.size_toArray,hal];omega
 have JY:G≤9223372036854775807:=by
  have:=grownCap_le_maxLen w (n+m) cap 78 (by unfold maxLen;omega);rw[←hG] at this;unfold maxLen at this;omega
 have FM:∀ty,(Builtin.append_ #[40,3] ty #[.slice (some ⟨g,0,none⟩) i cap,.int .i64 ((n:Int)+(m:Int)-(i:Int))]).run Tryz.prog w=
   .ok (.slice (some ⟨w.heap.size,0,none⟩) (n+m) G) (w.drew.alloc (.cells ROW 78)):=fun ty=>by
  have h:=Lib.run_append_grow_zeros w 40 3 ty 78 i0 _ .i64 .i64 Tryz.underlying40 Tryz.underlying3 hi0 hz0 (some ⟨g,0,none⟩) i cap hA hold (n+m-i) (by omega) (by omega) (by omega) (by omega) (by rw[hz2];omega) (by rw[hz2,hik];exact growslice_fits (by omega) (by omega));rw[hik,←hG] at h;rw[hkk,px,hZ];exact h
 obtain⟨W1,hW1⟩:∃W1,W1=w.drew.alloc (.cells ROW 78):=⟨_,rfl⟩
 rw[←hW1] at FM;have gH:W1.heap[w.heap.size]? =some (.cells ROW 78 (0,0)):=by rw[hW1];exact heap_alloc_new w.drew _
 have j9:∀j,j<w.heap.size→W1.heap[j]? =w.heap[j]? :=fun j hj=>by rw[hW1];exact Below.heap_alloc w.drew _ j hj
 have lr:∀b j,b<w.heap.size→W1.cell? ⟨b,j,none⟩=w.cell? ⟨b,j,none⟩:=fun b j hb=>World.cell?_of_block (a:=⟨b,j,none⟩) (j9 b hb)
 have pZ:=setCells_row (w:=W1) (vs:=vs) (cur:=ROW) (o:=i*2) (t:=78) gH (by omega) sK;have B6:=Array.length_toList (xs:=ROW);have El:=splice_len (L:=ROW.toList) (vs:=vs) (o:=i*2) (by omega);have jt:(W1.setCells w.heap.size (i*2) vs).heap[w.heap.size]? =some (.cells (splice ROW.toList (i*2) vs).toArray 78 (0,0)):=by
  rw[pZ];exact setRow_heap _ _ _ _ _ _ gH
 have rU:∀j,j<w.heap.size→(W1.setCells w.heap.size (i*2) vs).heap[j]? =w.heap[j]? :=fun j hj=>by
  rw[pZ];exact(setRow_other _ _ _ _ (by omega)).trans (j9 j hj)
 have xS:∀(W:World),(∀x,W.cell? x=W1.cell? x)→(∀x,W.frozen? x=W1.frozen? x)→∀ty dc,(Builtin.copy_ #[40,40] ty #[.slice (some ⟨w.heap.size,i*2,none⟩) (n+m-i) dc,.slice (some ⟨vb,0,none⟩) m m]).run Tryz.prog W= .ok (goInt m) (W.setCells w.heap.size (i*2) vs):=fun W hWc hWf ty dc=>
  run_copyS W _ _ ty 78 2 w.heap.size (i*2) (n+m-i) dc ⟨vb,0,none⟩ m m m vs Tryz.underlying40 hsz (by simp only[Nat.min_def];split <;>omega) hvl
   (fun j x hj=>by rw[Addr.add_lit,Nat.zero_add,hWc,lr vb j FF];exact xU j x hj)
   (fun j hj=>by rw[hWc,cell_of_row _ _ _ _ 78 (0,0) gH,Array.getElem?_eq_getElem (by omega)];rfl) (fun j _=>by rw[hWf];simp[World.frozen?,gH]) sK
 have pi:∀x∈D,x.oneCell'=true:=fun x hx=>hone x (by rw[hD] at hx;exact List.mem_of_mem_drop hx)
 have we:∀(W:World),(∀x,W.cell? x=(W1.setCells w.heap.size (i*2) vs).cell? x)→(∀x,W.frozen? x=(W1.setCells w.heap.size (i*2) vs).frozen? x)→∀ty dc sc,(Builtin.copy_ #[40,40] ty #[.slice (some ⟨w.heap.size,(i+m)*2,none⟩) (n+m-(i+m)) dc,.slice (some ⟨g,i*2,none⟩) (n-i) sc]).run Tryz.prog W= .ok (goInt ((n-i:Nat):Int)) (W.setCells w.heap.size ((i+m)*2) D):=fun W hWc hWf ty dc sc=>
  run_copyS W _ _ ty 78 2 w.heap.size ((i+m)*2) (n+m-(i+m)) dc ⟨g,i*2,none⟩ (n-i) sc (n-i) D Tryz.underlying40 hsz (by simp only[Nat.min_def];split <;>omega) ri
   (fun j x hj=>by
    have:=(List.getElem?_eq_some_iff.1 hj).1;rw[Addr.add_lit,hWc,World.cell?_of_block (a:=⟨g,i*2+j,none⟩) (rU g qU)];exact(hcell (i*2+j) (by omega)).trans (by rw[hD,List.getElem?_drop] at hj;exact hj))
   (fun j hj=>by rw[hWc,cell_of_row _ _ _ _ 78 (0,0) jt,List.getElem?_toArray,List.getElem?_eq_getElem (by omega)];rfl) (fun j _=>by rw[hWf];simp[World.frozen?,jt]) pi
 have js:=setCells_row (w:=(W1.setCells w.heap.size (i*2) vs).drew) (vs:=D) (o:=(i+m)*2) (t:=78) jt (by rw[List.size_toArray];omega) pi;have hend:GivesIns w base ((us.take i++(k,l,u)::us.drop i).map (fun x=>(x.1,x.2.1))) (.returned (.slice (some ⟨w.heap.size,0,none⟩) (n+m) G)) ((W1.setCells w.heap.size (i*2) vs).drew.setCells w.heap.size ((i+m)*2) D):=by
  rw[js];have hg2:=setRow_heap (W1.setCells w.heap.size (i*2) vs).drew w.heap.size _ (splice (splice ROW.toList (i*2) vs) ((i+m)*2) D).toArray 78 (0,0) jt;have tM:=splice_len (L:=splice ROW.toList (i*2) vs) (vs:=D) (o:=(i+m)*2) (by omega);have AJ:(Builtin.zeroCells Z (n+m-i)).toList.length=(n+m-i)*2:=by rw[zero_len,Bp]
  have jA:(splice (splice ROW.toList (i*2) vs) ((i+m)*2) D).toArray.toList.take ((n+m)*2)=rowCells (us.take i++(k,l,u)::us.drop i):=by
   rw[take_splice (by omega) (by omega),take_splice (by omega) (by omega),rowCells_mid];have h1:ROW.toList.take ((n+m)*2)=hA++(Builtin.zeroCells Z (n+m-i)).toList.take (m*2)++(Builtin.zeroCells Z (n+m-i)).toList.drop (m*2):=by
    rw[px,Array.toList_append,Array.toList_append,List.toList_toArray,List.take_left' (by rw[List.length_append,hal,AJ];omega),List.append_assoc hA,List.take_append_drop]
   rw[h1,splice_two hal (by rw[List.length_take,AJ];omega) (by rw[List.length_take,AJ]),←List.append_nil (hA++vs++_),splice_two (by rw[List.length_append];omega) (by rw[List.length_drop,AJ];omega) rfl,List.append_nil,zP,hD,hvs]
  have ad:Below w.heap.size w ((W1.setCells w.heap.size (i*2) vs).drew.setRow w.heap.size (splice (splice ROW.toList (i*2) vs) ((i+m)*2) D).toArray):=by
   refine below_setRow (Below.drew ?_) (Nat.le_refl _) _;rw[pZ];refine below_setRow ?_ (Nat.le_refl _) _;rw[hW1];exact(Below.refl _ _).drew.alloc (Nat.le_refl _) _
  refine⟨_,rfl,OR.mk_ (by omega) hg2 (by rw[List.length_append,List.length_cons,List.length_take,List.length_drop];omega) Iu (by unfold maxLen;omega) (by rw[List.size_toArray];omega) jA (fun x hx=>FB.below ?_ ad),ad.mono (by omega)⟩;rcases List.mem_append.1 hx with hx|hx
  ·exact bC x (List.mem_of_mem_take hx)
  ·rcases List.mem_cons.1 hx with rfl|hx
   ·exact hu
   ·exact bC x (List.mem_of_mem_drop hx)
 have oJ:∀x,((w.alloc (.cells ROW 78)).drew).cell? x=W1.cell? x:=fun x=>by rw[hW1];rfl
 have yx:∀x,((w.alloc (.cells ROW 78)).drew).frozen? x=W1.frozen? x:=fun x=>by rw[hW1];rfl
 have tJ:∀x,((W1.setCells w.heap.size (i*2) vs).drew).cell? x=(W1.setCells w.heap.size (i*2) vs).cell? x:=fun x=>rfl
 have hF2:∀x,((W1.setCells w.heap.size (i*2) vs).drew).frozen? x=(W1.setCells w.heap.size (i*2) vs).frozen? x:=fun x=>rfl
 have CF:=qH hend;have q1:¬((m:Int)=0):=by omega
 have q2:¬((i:Int)=(n:Int)):=by omega
 have q2':(cap:Int)<(n:Int)+(m:Int):=by omega
 have q3:IntKind.i64.wrap ((i:Int)+(m:Int))=(i:Int)+(m:Int):=by rw[IntKind.wrap_i64];omega
 have q4:(0:Int)≤(i:Int)+(m:Int):=by omega
 have q5:i≤n:=by omega
 have q6:((i:Int)+(m:Int)).toNat=i+m:=by omega
 have q7:¬(G=i):=by omega
 have q8:¬(G=i+m):=by omega
 have q9:¬(cap=i):=by omega
 have Bo:(i:Int)≤(n:Int):=by omega
 have Em:(cap:Int)≤9223372036854775807:=by unfold maxLen at hcm;omega
 have mixed:Tryz.prog.follows .mixedOrders=true:=by kernel_rfl
 clear hW1 hend js jt gH rU j9 lr pZ B6 El pi px Ek hZ Bp hold hkk hik hG qU FF xU sK hvl hvs hal zP ri hD hrl hone hcell bC htk hn hg hvb hu hm hz2 hlim hroom;go_enter Tryz.func95,Tryz.ntmps95;go_wp2_with (first
  |(at_builtin;refine wpList_append_known rfl _ _ _ _ rfl rfl rfl (FM _) ?_)
  |(at_builtin;refine wpList_copy_known rfl _ _ 40 40 rfl rfl rfl (xS _ (fun _=>rfl) (fun _=>rfl) _ _) ?_)
  |(at_builtin;refine wpList_copy_known rfl _ _ 40 40 rfl rfl rfl (xS _ oJ yx _ _) ?_)
  |(at_builtin;refine wpList_copy_known rfl _ _ 40 40 rfl rfl rfl (we _ (fun _=>rfl) (fun _=>rfl) _ _ _) ?_))
 go_region_law_o (refine step_copy_known rfl _ _ 40 40 rfl (by simp[Act.eval,Act.put]) (by simp[Act.eval,Act.put]) (we _ tJ hF2 _ _ _) ?_)
 go_wp2;go_ret;exact CF.out
theorem insert_end(base n vb:Nat)(v:Value)(us:List (ByteArray×List UInt8×Value))(k:ByteArray)(u:Value)(l:List UInt8)(w:World)(hn:n=us.length)
  (hown:w.ownsRow base 78 2 v n (rowCells us)) (bC:∀x∈us,FB 5 w base x.2.2 x.2.1) (hlim:n≤3000000000001) (hvb:w.heap[vb]? =some (.cells #[.string k,u] 78 (0,0))) (hu:FB 5 w base u l) (hbase:base≤w.heap.size):
  Calls Tryz.prog 95 #[v,.int .i64 n,.slice (some ⟨vb,0,none⟩) 1 1] w (GivesIns w base (us.map (fun x=>(x.1,x.2.1))++ [(k,l)])):=by
 have hsrc:Src Tryz.prog 2 40 (.slice (some ⟨vb,0,none⟩) 1 1) 1 [.string k,u] w:=Src.ofSlice w Tryz.underlying40 ⟨vb,0,none⟩ 1 1 [.string k,u] rfl (fun j x hj=>by
   rw[Addr.add_lit,Nat.zero_add,cell_of_row _ vb j _ 78 (0,0) hvb,List.getElem?_toArray];exact hj) (fun x hx=>by
   simp only[List.mem_cons,List.not_mem_nil,or_false] at hx;rcases hx with rfl|rfl
   ·rfl
   ·exact fb_one hu)
 obtain⟨A,c,rfl,hnc⟩:=own_shape hown;have Em:(c:Int)≤9223372036854775807:=by
  rcases hown.2 with ⟨he,_⟩|⟨g,cap,cur,he,_,_,_,hcm,_⟩
  ·injection he with _ _ e3;omega
  ·injection he with _ _ e3;unfold maxLen at hcm;omega
 have HO:=qH hown;have HS:=qH hsrc;have HF:=qH bC;have HU:=qH hu;have HN:=qH hn;clear hown hsrc bC hu hvb hn;go_enter Tryz.func95,Tryz.ntmps95;go_wp2_with (at_builtin;refine wpList_own rfl (.tmp 23) (.tmp 24) 40 40 rfl base 78 (.agg #[.string ⟨#[]⟩,.slice none 0 0]) 2 40 Tryz.underlying40 info78 rfl rfl HO.out rfl HS.out (Below.refl base w) (Nat.le_refl _) (by unfold maxLen;omega) (by omega) hbase ?_;intro v5 w5 ao aH hg5;have HR:=qH (show OR 5 78 w5 base v5 (us.map (fun x=>(x.1,x.2.1))++ [(k,l)]) from OR.push (by decide) (by rw[←HN.out];exact HO.out) HF.out HU.out (by rw[←HN.out];exact ao) hg5);have ax:=qH aH;clear ao aH hg5)
 all_goals
  go_ret;exact⟨_,rfl,HR.out,ax.out⟩
theorem insert_any(base at_ vb:Nat)(v:Value)(rs:List Rw)(k:ByteArray)(u:Value)(l:List UInt8)(w:World)(ho:OR 5 78 w base v rs)(hat:at_≤rs.length)(hlim:rs.length≤3000000000001)
  (hvb:w.heap[vb]? =some (.cells #[.string k,u] 78 (0,0))) (hvg:∀g,v.ownBlock=some g→vb≠g) (hu:FB 5 w base u l) (hbase:base≤w.heap.size):
  Calls Tryz.prog 95 #[v,.int .i64 at_,.slice (some ⟨vb,0,none⟩) 1 1] w (GivesIns w base (rs.take at_++(k,l)::rs.drop at_)):=by
 obtain⟨us,rfl,hown,bC⟩:=ho;rw[List.length_map] at hat hlim;have hm:(us.map (fun x=>(x.1,x.2.1))).take at_++(k,l)::(us.map (fun x=>(x.1,x.2.1))).drop at_=(us.take at_++(k,l,u)::us.drop at_).map (fun x=>(x.1,x.2.1)):=by rw[List.map_append,List.map_cons,List.map_take,List.map_drop]
 rw[hm];rcases Nat.lt_or_ge at_ us.length with hlt|hge
 ·have hown0:=hown
  rcases hown.2 with ⟨_,h0⟩|⟨g,cap,cur,rfl,hbg,hg,hnc,hcm,hcs,htk⟩
  ·omega
  ·rcases Nat.lt_or_ge cap (us.length+1) with hr|hr
   ·exact insert_grow base at_ g us.length cap vb cur us k u l w hbg hg rfl hnc hcm htk bC hlt hr hlim hvb hu
   ·exact insert_shift base at_ g us.length cap vb cur us k u l w hbg hg rfl hcm hcs htk bC hlt hr hvb (hvg g rfl) hu
 ·obtain rfl:at_=us.length:=by omega
  have h:=insert_end base us.length vb v us k u l w rfl hown bC hlim hvb hu hbase;rw[List.take_length,List.drop_length,List.map_append];exact h
end Go.Proofs.YtmbkaedhllfoeaaGreat
