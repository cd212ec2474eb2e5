/-
  Texts of the proof, put together.
-/
import Derived.Deep.RegionLaw
import Derived.Shelf.RegionOpenPlain
import Derived.Lib.Walk
import Derived.Test.YtmbkaedhllfoeaaGreatKPEE
import Derived.Test.YtmbkaedhllfoeaaGreatKPWr
set_option maxRecDepth 100000
set_option maxHeartbeats 4000000
set_option linter.unusedVariables false
namespace Go.Proofs.YtmbkaedhllfoeaaGreat
open Go.RowKit Go.Rst Go.Pg Go.Crc Go.Lib
theorem delete_any(base at_:Nat)(v:Value)(rs:List Rw)(w:World)(ho:OR 5 78 w base v rs)(hat:at_<rs.length):
  Calls Tryz.prog 94 #[v,.int .i64 at_,.int .i64 ((at_:Int)+1)] w fun e w'=>∃v',e= .returned v'∧OR 5 78 w' base v' (rs.take at_++rs.drop (at_+1))∧Below base w w':=by
 obtain⟨us,rfl,hown,bC⟩:=ho;rw[List.length_map] at hat;have hown0:=hown;rcases hown.2 with ⟨_,h0⟩|⟨g,cap,cur,rfl,hbg,hg,hnc,hcm,hcs,htk⟩
 ·omega
 have hcell:∀i,i<us.length*2→w.cell? ⟨g,i,none⟩=(rowCells us)[i]? :=fun i hi=>by
  rw[cell_of_row _ g i cur 78 (0,0) hg,←htk,List.getElem?_take,if_pos hi,Array.getElem?_toList]
 have hsome:∀i,i<cap*2→(w.cell? ⟨g,i,none⟩).isSome=true:=fun i hi=>by
  rw[cell_of_row _ g i cur 78 (0,0) hg,Array.getElem?_eq_getElem (by omega)];rfl
 have hfz:∀i,w.frozen? ⟨g,i,none⟩=false:=fun i=>by simp[World.frozen?,hg]
 obtain⟨i0,hi0,hz0,hz1,hz2⟩:=info_parts info78;obtain⟨n,hn⟩:∃n,n=us.length:=⟨_,rfl⟩
 obtain⟨j,hj⟩:∃j,j=at_+1:=⟨_,rfl⟩
 have yg:(at_:Int)+1=(j:Int):=by omega
 obtain⟨news,hnews⟩:∃news,news=(rowCells us).drop (j*2):=⟨_,rfl⟩
 have hrl:=rowCells_length us;have hlen:news.length=(n-j)*2:=by rw[hnews,List.length_drop,hrl,←hn];omega
 have hone:=rows_one bC;obtain⟨A,hA,hsrc⟩:∃A:Addr,(if cap=j then (some (⟨g,0,none⟩:Addr)) else some ⟨g,j*2,none⟩)=some A∧Hid (∀t u,news[t]? =some u→w.drew.cell? (A.add t)=some u):=by
  by_cases h:cap=j
  ·refine⟨⟨g,0,none⟩,by simp[h],qH fun t u hu=>?_⟩
   have h0:news.length=0:=by rw[hlen];omega
   rw[List.length_eq_zero_iff.1 h0] at hu;simp at hu
  ·refine⟨⟨g,j*2,none⟩,by simp[h],qH fun t u hu=>?_⟩
   have ht:t<(n-j)*2:=by
    have:=(List.getElem?_eq_some_iff.1 hu).1
    rwa [hlen] at this
   rw[hnews,List.getElem?_drop] at hu;rw[Addr.add_lit];exact(hcell (j*2+t) (by omega)).trans hu
 have s1:Hid (news.length=(n-j)*2):=qH hlen;have s2:Hid (∀u∈news,u.oneCell'=true):=qH (fun u hu=>hone u (by rw[hnews] at hu;exact List.mem_of_mem_drop hu));have s3:Hid (∀t,t<news.length→(w.drew.cell? ⟨g,0+at_*2+t,none⟩).isSome=true∧w.drew.frozen? ⟨g,0+at_*2+t,none⟩=false):=qH (by
  intro t ht;rw[hlen] at ht;exact⟨hsome _ (by omega),hfz _⟩)
 obtain⟨W1,hW1⟩:∃W1,W1=w.drew.setCells g (0+at_*2) news:=⟨_,rfl⟩
 have ey:W1.heap[g]? =some (.cells (splice cur.toList (0+at_*2) news).toArray 78 (0,0)):=by
  rw[hW1,setCells_row (w:=w.drew) (vs:=news) (cur:=cur) (o:=0+at_*2) hg (by rw[hlen];omega) s2.out];exact setRow_heap _ _ _ _ _ _ (show w.drew.heap[g]? =some (.cells cur 78 (0,0)) from hg)
 have hsl:(splice cur.toList (0+at_*2) news).length=cap*2:=by
  have vw:=Array.length_toList (xs:=cur);rw[splice_len (L:=cur.toList) (vs:=news) (o:=0+at_*2) (by omega)];omega
 have iQ:∀k,k≠g→W1.heap[k]? =w.heap[k]? :=fun k hk=>by
  rw[hW1,setCells_row (w:=w.drew) (vs:=news) (cur:=cur) (o:=0+at_*2) hg (by rw[hlen];omega) s2.out];exact setRow_other _ _ _ _ hk
 have hsz1:W1.heap.size=w.heap.size:=by
  rw[hW1,setCells_row (w:=w.drew) (vs:=news) (cur:=cur) (o:=0+at_*2) hg (by rw[hlen];omega) s2.out];simp[World.setRow]
 have aJ:Below base w W1:=by
  rw[hW1,setCells_row (w:=w.drew) (vs:=news) (cur:=cur) (o:=0+at_*2) hg (by rw[hlen];omega) s2.out];exact below_setRow (Below.refl base w).drew hbg _
 have hcl:∀ty,(Builtin.clear_ #[40] ty #[.slice (some ⟨g,(n-1)*2,none⟩) 1 (cap-(n-1))]).run Tryz.prog W1= .ok (.tuple #[]) (W1.setCells g ((n-1)*2) (Builtin.zeroCells #[.string ⟨#[]⟩,.slice none 0 0] 1).toList):=fun ty=>
  run_clearS W1 _ 78 ty (.agg #[.string ⟨#[]⟩,.slice none 0 0]) Tryz.underlying40 (zero_row i0 hi0 hz0) (by simp[Value.cells,Value.oneCell']) g ((n-1)*2) 1 _ (by omega)
   (fun t ht=>by simp only[Value.cells,List.size_toArray,List.length_cons,List.length_nil] at ht;rw[cell_of_row _ g _ _ 78 (0,0) ey,List.getElem?_toArray,List.getElem?_eq_getElem (by omega)];rfl)
   (fun t _=>by simp[World.frozen?,ey])
 have HW:=qH hW1;have kj:=qH ey;have sY:=qH iQ;have aG:=qH aJ;have ig:=qH hsz1;have ga:=qH bC;have nn:=qH htk;have sn:=qH hnews;have q1:at_≤cap:=by omega
 have q2:j≤cap:=by omega
 have q3:j≤n:=by omega
 have q4:at_<n:=by omega
 have q5:((at_:Int)==(j:Int))=false:=by rw[beq_eq_false_iff_ne];omega
 have q6:¬(at_:Int)=(j:Int):=by omega
 have q7:at_+(n-j)=n-1:=by omega
 have q8:¬cap=n-1:=by omega
 have q9:n-(n-1)=1:=by omega
 have Bo:(cap:Int)≤9223372036854775807:=by unfold maxLen at hcm;omega
 have Em:n≤cap:=by omega
 have rT:n-1≤n:=by omega
 rw[yg];rw[←hn];have HN:=qH hn;have HJ:=qH hj;have KY:¬n=at_:=by omega
 have Le:¬cap=at_:=by omega
 have Lf:at_≤j:=by omega
 clear hW1 ey iQ aJ hsz1 hnews hn hj yg hown hown0 bC htk hsome hcell hfz hlen hrl hat hone hnc hcm;have mixed:Tryz.prog.follows .mixedOrders=true:=by kernel_rfl
 go_enter Tryz.func94,Tryz.ntmps94;go_wp2_with fail
 go_region_law_o (refine step_append_room rfl (.tmp 22) (.tmp 25) 40 rfl 78 i0 2 Tryz.underlying40 hi0 hz1 g 0 at_ cap (by simp[Act.eval,Act.put]) A (n-j) (cap-j) news (by simp[Act.eval,Act.put]) s1.out hsrc.out s2.out (by omega) s3.out ?_;rw[←HW.out])
 go_wp2;go_ret;have hz:(Builtin.zeroCells #[Value.string ⟨#[]⟩,.slice none 0 0] 1).toList.length=2:=zero_len _ _;have vw:=Array.length_toList (xs:=cur);have hj:=HJ.out;have eC:=setCells_row (w:=W1) (vs:=(Builtin.zeroCells #[Value.string ⟨#[]⟩,.slice none 0 0] 1).toList) (o:=(n-1)*2) kj.out (by rw[hz,List.size_toArray];omega) (zero_one (by simp[Value.oneCell']));rw[eC];have hg2:=setRow_heap W1 g _ (splice (splice cur.toList (0+at_*2) news).toArray.toList ((n-1)*2) (Builtin.zeroCells #[Value.string ⟨#[]⟩,.slice none 0 0] 1).toList).toArray 78 (0,0) kj.out;have mH:∀k,k≠g→(W1.setRow g (splice (splice cur.toList (0+at_*2) news).toArray.toList ((n-1)*2) (Builtin.zeroCells #[Value.string ⟨#[]⟩,.slice none 0 0] 1).toList).toArray).heap[k]? =w.heap[k]? :=fun k hk=>(setRow_other _ _ _ _ hk).trans (sY.out k hk)
 have ag:=below_setRow aG.out hbg (splice (splice cur.toList (0+at_*2) news).toArray.toList ((n-1)*2) (Builtin.zeroCells #[Value.string ⟨#[]⟩,.slice none 0 0] 1).toList).toArray;have hm:(us.take at_++us.drop (at_+1)).map (fun x=>(x.1,x.2.1))=(us.map (fun x=>(x.1,x.2.1))).take at_++(us.map (fun x=>(x.1,x.2.1))).drop (at_+1):=by rw[List.map_append,List.map_take,List.map_drop]
 have eY:n-1=(us.take at_++us.drop (at_+1)).length:=by have:=HN.out;rw[List.length_append,List.length_take,List.length_drop];omega
 have jA:(splice (splice cur.toList (0+at_*2) news).toArray.toList ((n-1)*2) (Builtin.zeroCells #[Value.string ⟨#[]⟩,.slice none 0 0] 1).toList).toArray.toList.take ((n-1)*2)=rowCells (us.take at_++us.drop (at_+1)):=by
  have hs1:=s1.out;have h1:(splice cur.toList (0+at_*2) news).take ((n-1)*2)=cur.toList.take (at_*2)++news:=by
   have:=take_splice1 (L:=cur.toList) (vs:=news) (o:=0+at_*2) (by omega);rw[show 0+at_*2+news.length=(n-1)*2 by omega] at this;rw[this,Nat.zero_add]
  have h2:cur.toList.take (at_*2)=(rowCells us).take (at_*2):=by
   rw[←nn.out,List.take_take,Nat.min_eq_left (by have:=HN.out;omega)]
  simp only;have h3:(splice (splice cur.toList (0+at_*2) news) ((n-1)*2) (Builtin.zeroCells #[Value.string ⟨#[]⟩,.slice none 0 0] 1).toList).take ((n-1)*2)=(splice cur.toList (0+at_*2) news).take ((n-1)*2):=by
   exact take_splice0 (by omega)
  rw[h3,h1,h2,sn.out,rowCells_take,rowCells_drop,←rowCells_append,hj]
 rw[←hm];refine⟨_,rfl,OR.mk_ hbg hg2 eY (by omega) (by unfold maxLen;omega) ?_ jA (fun x hx=>fb_far hg mH (ga.out x ?_)),ag⟩
 ·have tM:=splice_len (L:=(splice cur.toList (0+at_*2) news).toArray.toList) (vs:=(Builtin.zeroCells #[Value.string ⟨#[]⟩,.slice none 0 0] 1).toList) (o:=(n-1)*2) (by rw[hz];simp only;omega)
  rw[List.size_toArray,tM];simp only;exact hsl
 ·rcases List.mem_append.1 hx with hx|hx
  ·exact List.mem_of_mem_take hx
  ·exact List.mem_of_mem_drop hx
end Go.Proofs.YtmbkaedhllfoeaaGreat
