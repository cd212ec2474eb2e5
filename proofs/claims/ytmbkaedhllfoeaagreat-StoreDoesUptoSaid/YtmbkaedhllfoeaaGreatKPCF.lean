/-
  Texts of the proof, put together.
-/
import Derived.Great.BuildSlice
import Derived.Test.YtmbkaedhllfoeaaGreatKPCE
import Derived.Test.YtmbkaedhllfoeaaGreatKPWr
set_option maxRecDepth 100000
set_option maxHeartbeats 4000000
set_option linter.unusedVariables false
namespace Go.Proofs.YtmbkaedhllfoeaaGreat
open Go.RowKit Go.Rst Go.Dv
theorem fill_one{s:Nat}(hs:0<s)(v:Value)(cells:Array Value)(hv:v.cells.size=s)(hc:cells.size=s):Instr.fill (fun i=>some (i*s,s)) cells [(0,v)]=some v.cells:=by
 obtain⟨r,hr,hsz,hk⟩:=Great.fill_dense hs [v] 0 cells (fun u hu=>by simp at hu;subst hu;exact hv) (by simp;omega);have e:([v].zipIdx 0).map (fun x=>(x.2,x.1))= [(0,v)]:=rfl;rw[e] at hr;rw[hr]
 congr 1
 apply Array.ext
 ·rw[hsz,hc,hv]
 ·intro k h1 h2
  have:=hk k;rw[if_pos ⟨by omega,by simp;omega⟩,Array.getElem?_eq_getElem h1,Nat.div_eq_of_lt (by omega),Nat.mod_eq_of_lt (by omega)] at this;simp at this;rw[Array.getElem?_eq_getElem h2] at this;injection this
theorem src_wc{w w4:World}{x:Wr}(hx:x.2.length=64)(h:w4=w.alloc (.cells (wc x).toArray 123)):Src Tryz.prog 65 116 (.slice (some ⟨w.heap.size,0,none⟩) 1 1) 1 (wc x) w4:=by
 subst h;refine Src.ofSlice _ Tryz.underlying116 ⟨w.heap.size,0,none⟩ 1 1 (wc x) (by rw[wc_length hx]) (fun j u hj=>?_) (wc_one x);rw[Addr.add_lit,Nat.zero_add,cell_of_row _ w.heap.size j _ 123 (0,0) (heap_alloc_new w _),List.getElem?_toArray];exact hj
theorem step_load_mid{P:Program}{ops:Array Oper}{o:Oper}{a:Act}{w:World}{K:Act→World→Prop}{Q:Exit→Act→World→Prop}{E:Prop}(hgd:o.guard=none)(ty:TypeId)(x:Operand)(ho:o.op= .load ty x)
  (b off:Nat) (hx:a.eval x= .pointer (some ⟨b,off,none⟩)) (cs:List Value) (d:TypeDesc) (hc:w.rangeAt b off cs) (hu:P.underlying ty=some d) (hd:d.isRow=true) (hi:(P.info? ty).map (·.size)=some cs.length)
  (h:K (a.put o.dst (.agg cs.toArray)) w):if Region.wanted o (yielded ops a.tmps)=true then Oper.wp P o a w K Q else E:=by
 have hw:Region.wanted o (yielded ops a.tmps)=true:=by simp[Region.wanted,hgd]
 rw[if_pos hw];exact wp_load_mid ty x ho b off hx cs d hc hu hd hi h
theorem step_buildOne{ops:Array Oper}{o:Oper}{a:Act}{w:World}{K:Act→World→Prop}{Q:Exit→Act→World→Prop}{E:Prop}(hgd:o.guard=none)(t e:TypeId)(x:Operand)(ho:o.op= .buildSlice t 1 #[(0,x)])
  (cs:List Value) (hx:a.eval x= .agg cs.toArray) (ht:Tryz.prog.underlying t=some (.slice e)) (hi:∃z:Value,(Tryz.prog.info? e).map (fun i=>(i.zero,i.size))=some (some z,cs.length)∧z.cells.size=cs.length∧0<cs.length∧cs.length≤1000)
  (h:∀w',w'=w.alloc (.cells cs.toArray e)→Below w.heap.size w w'→K (a.put o.dst (.slice (some ⟨w.heap.size,0,none⟩) 1 1)) w'):if Region.wanted o (yielded ops a.tmps)=true then Oper.wp Tryz.prog o a w K Q else E:=by
 have hw:Region.wanted o (yielded ops a.tmps)=true:=by simp[Region.wanted,hgd]
 rw[if_pos hw];obtain⟨z,hz,hzs,h0,h1⟩:=hi
 cases hq:Tryz.prog.info? e with
 |none=>rw[hq] at hz;simp at hz
 |some ie=>
  rw[hq] at hz;simp only[Option.map_some,Option.some.injEq,Prod.mk.injEq] at hz;have hrun:=run_buildSlice (P:=Tryz.prog) w t e 1 #[(0,.agg cs.toArray)] cs.toArray ie z ht hq hz.1 (by rw[hz.2];omega) (by rw[hz.2];omega) (by
   rw[hz.2];have hsz:((Array.range (1*cs.length)).map (z.cells[· %z.cells.size]!)).size=cs.length:=by simp
   exact fill_one h0 (.agg cs.toArray) _ (by simp[Value.cells]) hsz)
  unfold Oper.wp execOp;simp only[ho,List.map_toArray,List.map_cons,List.map_nil,hx,hrun,Sem.run_bind,Sem.run_pure,Result.andThen_ok];exact h _ rfl ((Below.refl _ _).alloc (Nat.le_refl _) _)
theorem step_append_src{P:Program}{w:World}{ops:Array Oper}{o:Oper}{a:Act}{K:Act→World→Prop}{Q:Exit→Act→World→Prop}{E:Prop}(hgd:o.guard=none)(s x:Operand)(t tx:TypeId)
  (ho:o.op= .call {callee:= .builtin .append,args:=#[s,x],argTypes:=#[t,tx]})
  (base:Nat) (e:TypeId) (z:Value) (size bytes:Nat) (ht:P.underlying t=some (.slice e)) (hinfo:(P.info? e).map (fun i=>(i.zero,i.size,i.bytes))=some (some z,size,bytes))
  (hzs:z.cells.size=size)
  {v:Value} {n:Nat} {xs:List Value} (hs:a.eval s=v) (hown:w.ownsRow base e size v n xs)
  {xv:Value} {m:Nat} {news:List Value} (hx:a.eval x=xv) (hsrc:Src P size tx xv m news w)
  (h63:n+m≤maxLen) (hbytes:(n+m)*bytes≤140737488355328) (hbase:base≤w.heap.size)
  (h:∀v' w',w'.ownsRow base e size v' (n+m) (xs++news)→w.grownBy w' v.ownBlock→(v'.ownBlock=v.ownBlock∨v'.ownBlock=some w.heap.size)→K (a.put o.dst v') w'):
  if Region.wanted o (yielded ops a.tmps)=true then Oper.wp P o a w K Q else E:=by
 have hw:Region.wanted o (yielded ops a.tmps)=true:=by simp[Region.wanted,hgd]
 rw[if_pos hw];obtain⟨i,hi,hz,hsz,hb⟩:=info_parts hinfo;exact wp_append_src s x t tx ho base e i z size bytes ht hi hz hsz hb hzs hs hown hx hsrc h63 hbytes hbase h
theorem Raw.push{D:Nat→Prop}{w3 w4 w5:World}{y:Lay}{F:List (List UInt8)}{L:List Wr}{N:List Nat}{f:Bool}{a b:Nat}{A5:Option Addr}{c5 n:Nat}{x:Wr}(h:Raw D w3 y F L N f a b)(hb:Below w3.drew.heap.size w3.drew w4)
  (ho:w5.ownsRow 0 123 65 (.slice A5 (L.length+1) c5) (L.length+1) (wcs L++wc x)) (hg:w4.grownBy w5 (Value.ownBlock (.slice y.A L.length y.c)))
  (hk:Value.ownBlock (.slice A5 (L.length+1) c5)=Value.ownBlock (.slice y.A L.length y.c)∨Value.ownBlock (.slice A5 (L.length+1) c5)=some w4.heap.size) (hn:n=L.length+1):
  ∃E:Nat→Prop,Raw E (w5.setCell ⟨y.g,1,none⟩ (.slice A5 n c5)) {y with A:=A5,c:=c5} F (L++ [x]) N f a b∧(∀k,D k→E k)∧∀k,E k→D k∨w3.heap.size≤k:=by
 subst hn;have hd:w3.drew.heap.size=w3.heap.size:=rfl;have hs4:=hb.size;have hs5:=hg.size;have hblk:∀k,k<w3.heap.size→some k≠Value.ownBlock (.slice y.A L.length y.c)→w5.heap[k]? =w3.heap[k]? :=fun k hk hne=>(hg.block k (by omega) hne).trans (hb.block k (by omega))
 have FG:∀p,A5=some p→D p.block∨(w3.heap.size≤p.block∧p.block<w5.heap.size):=by
  intro p hp;subst hp;rcases hk with hk|hk
  ·obtain⟨q,e,e2⟩:=ownBlock_some (p:=y.A) (n:=L.length) (c:=y.c) (k:=p.block) hk.symm
   exact .inl (e2▸h.dA q e)
  ·have e:p.block=w4.heap.size:=by simpa [Value.ownBlock] using hk
   have:=(ho.lt _ rfl).2;exact .inr ⟨by omega,this⟩
 have hne:∀k,(k=y.g∨k=y.gF∨k=y.gN)→some k≠Value.ownBlock (.slice y.A L.length y.c):=by
  intro k hk he;obtain⟨q,e,e2⟩:=ownBlock_some he.symm;have:=h.n4 q e;rcases hk with rfl|rfl|rfl
  ·exact this.1 e2
  ·exact this.2.1 e2
  ·exact this.2.2 e2
 have bQ:∀k,k≠y.g→(w5.setCell ⟨y.g,1,none⟩ (.slice A5 (L.length+1) c5)).heap[k]? =w5.heap[k]? :=fun k hk=>Below.heap_setCell _ _ _ _ hk
 have xC:∀p,A5=some p→p.block≠y.g∧p.block≠y.gF∧p.block≠y.gN:=by
  intro p hp;subst hp;rcases hk with hk|hk
  ·obtain⟨q,e,e2⟩:=ownBlock_some (p:=y.A) (n:=L.length) (c:=y.c) (k:=p.block) hk.symm
   have:=h.n4 q e;rw[e2] at this;exact this
  ·have e:p.block=w4.heap.size:=by simpa [Value.ownBlock] using hk
   have l1:=h.lt _ h.dg;have l2:=h.lt _ h.dF;have l3:=h.lt _ h.dN;exact⟨by omega,by omega,by omega⟩
 refine⟨fun k=>D k∨∃p,A5=some p∧k=p.block,⟨?_,?_,?_,?_,.inl h.dg,.inl h.dF,.inl h.dN,fun p hp=> .inr ⟨p,hp,rfl⟩,?_,h.n1,h.n2,h.n3,xC⟩,fun k hk=> .inl hk,?_⟩
 ·have h1:Blk w5 y.g 119 (dcs y F.length L.length N.length f a b):=h.bd.same (hblk _ (h.lt _ h.dg) (hne _ (.inl rfl)))
  have h2:=h1.set_ 1 (.slice A5 (L.length+1) c5);rw[List.length_append];exact h2
 ·refine own_same h.rf (fun k hk=>?_)
  obtain⟨q,e,rfl⟩:=ownBlock_some hk;injection e with e;subst e;exact(bQ _ (fun e=>h.n1 e.symm)).trans (hblk _ (h.lt _ h.dF) (hne _ (.inr (.inl rfl))))
 ·rw[wcs_append,List.length_append]
  refine own_same ho (fun k hk=>?_);obtain⟨q,e,rfl⟩:=ownBlock_some hk;exact bQ _ (xC q e).1
 ·refine own_same h.rn (fun k hk=>?_)
  obtain⟨q,e,rfl⟩:=ownBlock_some hk;injection e with e;subst e;exact(bQ _ (fun e=>h.n2 e.symm)).trans (hblk _ (h.lt _ h.dN) (hne _ (.inr (.inr rfl))))
 ·intro k hk
  have e:(w5.setCell ⟨y.g,1,none⟩ (.slice A5 (L.length+1) c5)).heap.size=w5.heap.size:=by simp[World.setCell]
  rw[e];rcases hk with hk|⟨p,hp,rfl⟩
  ·have:=h.lt k hk;omega
  ·rcases FG p hp with h9|h9
   ·have:=h.lt _ h9;omega
   ·exact h9.2
 ·intro k hk
  rcases hk with hk|⟨p,hp,rfl⟩
  ·exact .inl hk
  ·rcases FG p hp with h9|h9
   ·exact .inl h9
   ·exact .inr h9.1
theorem Blk.setCells{g:Nat}{t:TypeId}:∀(vs:List Value) (i:Nat) (w:World) (cs:List Value),Blk w g t cs.toArray→Blk (w.setCells g i vs) g t (setL cs i vs).toArray
 | [],_,_,_,h=>h
 |v::r,i,_,cs,h=>by
  have h1:=h.set_ i v;rw[List.setIfInBounds_toArray] at h1;exact Blk.setCells r (i+1) _ _ h1
theorem setL_pad(k:Nat)(l:List UInt8)(hl:l.length≤64):setL (wc (k,List.replicate 64 0)) 1 (bvs l)=wc (k,pad l):=by
 have h1:(wc (k,List.replicate 64 0)).length=65:=wc_length (by simp);rw[setL_eq _ _ _ (by rw[h1,bvs_length];omega),bvs_length];unfold wc pad;rw[bvs_append,List.take_succ_cons,List.take_zero,Nat.add_comm 1,List.drop_succ_cons];have e:(bvs (List.replicate 64 (0:UInt8))).drop l.length=bvs (List.replicate (64-l.length) 0):=by
  unfold bvs;rw[List.map_replicate,List.map_replicate,List.drop_replicate]
 rw[e];rfl
theorem built123(k:Nat):Tryz.prog.built 123 [(0,.int .i64 (k:Int))]=some (wc (k,List.replicate 64 0)).toArray:=by kernel_rfl
theorem wpList_copy_mid{P:Program}{w:World}{ops:Array Oper}{rest:List Oper}{o:Oper}{a:Act}{Q:Exit→Act→World→Prop}(hgd:o.guard=none)(d s:Operand)(dT sT elem:TypeId)
  (ho:o.op= .call {callee:= .builtin .copy,args:=#[d,s],argTypes:=#[dT,sT]}) (b off:Nat) (hd:a.eval d= .slice (some ⟨b,off,none⟩) 64 64) {sv:Value} (hs:a.eval s=sv) (l:List UInt8) (hl:l.length≤64)
  (hRB:RB w sv l) (nc:w.there b off 64) (hu:P.underlying dT=some (.slice elem)) (hsz:(P.info? elem).map (·.size)=some 1)
  (h:wpList P ops Q rest (a.put o.dst (.int .i64 (l.length:Int))) (w.setCells b off (bvs l))):wpList P ops Q (o::rest) a w:=by
 refine wpList_plain hgd fun K hK=>?_
 obtain⟨A,c,rfl,h1,h2,h3⟩:=hRB;have hrun:∀ty,(Builtin.copy_ #[dT,sT] ty #[.slice (some ⟨b,off,none⟩) 64 64,.slice A l.length c]).run P w= .ok (.int .i64 (l.length:Int)) (w.setCells b off (bvs l)):=by
  intro ty;rcases h3 with rfl|⟨b',off',rfl,hb',hc'⟩
  ·exact run_copy_none w dT sT ty elem _ _ 64 64 0 c hu hsz (by simp)
  ·have:=run_copy_cells (P:=P) w dT sT ty elem b off 64 64 ⟨b',off',none⟩ l.length c (bvs l) hu hsz (by rw[bvs_length];exact(Nat.min_eq_left hl).symm) (fun j u hj=>by
    have hj':j<l.length:=by have:=(List.getElem?_eq_some_iff.1 hj).1;rwa [bvs_length] at this
    rw[bvs_get hj'] at hj;injection hj with hj;subst hj;rw[Addr.add_lit];exact hc' j hj') (fun j hj=>(nc j (by rw[bvs_length] at hj;omega)).1) (fun j hj=>(nc j (by rw[bvs_length] at hj;omega)).2) bvs_one
   rw[bvs_length] at this;exact this
 unfold Oper.wp execOp;simp only[ho,resolve,invoke,builtin,Sem.run_bind,Sem.run_pure,Result.andThen_ok,List.map_toArray,List.map_cons,List.map_nil,hd,hs,hrun];exact hK _ _ h
theorem write_yes{D:Nat→Prop}{w:World}{v:Value}{s:Sim}(k:Nat)(b:Value)(l:List UInt8)(h:Dev D w v s)(hk:k<s.firm.length)(hl:l.length≤64)(hg:s.goes=true)(hb:RB w b l)(hn:l≠ []→∀j,b.ownBlock=some j→¬D j)(hw:s.loose.length<100000):
  Calls Tryz.prog 188 #[v,.int .i64 (k:Int),b] w fun e w'=>e= .returned (.int .u16 0)∧Did D w v (s.put k l) w':=by
 have H:=qH h;have HG:=qH hg;have HI:=qH (show s.has k=true from Sim.has_iff.2 ⟨by omega,by omega⟩);have HB:=qH hb;have HN:=qH hn;obtain⟨y0,rfl,_⟩:=h;obtain⟨A,c,rfl,_,_,_⟩:=hb;clear hg hn;obtain⟨m,hm⟩:∃m,m=l.length:=⟨_,rfl⟩
 have HM:=qH hm;have yu:(m:Int)≤64:=by omega
 rw[←hm] at HB HN⊢;have HL:=qH hl;clear hm hl;have dt:(0:Int)≤(k:Int):=by omega
 have hk1:(k:Int)<4096+1:=by have:=H.out.ok.n;omega
 go_enter Tryz.func188,Tryz.ntmps188;go_wp2_with fail
 go_at_call 67;refine(has_any _ H.out).mono ?_;rintro e w'⟨rfl,rfl⟩;rw[HI.out];go_wp2_with fail
 go_at_call 73;refine(passes_any H.out).mono ?_;rintro e w1⟨rfl,hf,hd⟩;rw[HG.out] at hd⊢;rw[if_pos rfl] at hd;obtain⟨y,hy,hr,hok,dQ⟩:=hd;have hy':y0.g=y.g:=by injection hy with hy;injection hy with hy;injection hy
 rw[hy'];have HY:=qH hy';have HF:=qH hf;have lK:=qH hok;have yk:=qH dQ;have fl:Raw D w1 y s.firm s.loose (newL s.firm.length s.loose) s.burnt.fuse.isSome s.nw s.nf:=hr;have an:=qH (RB.fr HB.out hf HN.out);have HR:=qH fl;clear hy hy' hf dQ hr hok fl;obtain⟨Z,hZ⟩:∃Z,Z=#[Value.int .i64 0]++Array.replicate 64 (Value.int .u8 0):=⟨_,rfl⟩
 have lm:=zero123;rw[←hZ] at lm;have rO:(Z.setIfInBounds 0 (Value.int .i64 (k:Int)))=(wc (k,List.replicate 64 0)).toArray:=by
  rw[hZ];unfold wc bvs;rw[List.map_replicate];apply Array.toList_inj.1;simp;exact⟨rfl,rfl⟩
 have mT:=qH rO;have sd:(Z.setIfInBounds 0 (Value.int .i64 (k:Int))).size=65:=by rw[rO,List.size_toArray,wc_length (by simp)]
 have Jp:=qH (show Tryz.prog.built 123 [(0,.int .i64 (k:Int))]=some (Z.setIfInBounds 0 (Value.int .i64 (k:Int))) by rw[rO];exact built123 k);have ml:=qH (show(Tryz.prog.info? 123).map (·.size)=some (Z.setIfInBounds 0 (Value.int .i64 (k:Int))).size by rw[sd];exact size68);have mh:=qH (show Z.size=(Z.setIfInBounds 0 (Value.int .i64 (k:Int))).size by rw[sd,hZ];simp);have pN:=qH (show(Z.setIfInBounds 0 (Value.int .i64 (k:Int))).all (·.oneCell')=true by rw[rO];exact wc_all _);have zX:(w1.alloc (Obj.cells Z 123)).setRow w1.heap.size (Z.setIfInBounds 0 (Value.int .i64 (k:Int)))=w1.alloc (Obj.cells (Z.setIfInBounds 0 (Value.int .i64 (k:Int))) 123):=World.setRow_alloc_new _ _ _ _;have nc:((w1.alloc (Obj.cells Z 123)).setRow w1.heap.size (Z.setIfInBounds 0 (Value.int .i64 (k:Int)))).there w1.heap.size 1 64:=fun j hj=>by
  rw[zX];have hbk:Blk (w1.alloc (Obj.cells (Z.setIfInBounds 0 (Value.int .i64 (k:Int))) 123)) w1.heap.size 123 (Z.setIfInBounds 0 (Value.int .i64 (k:Int))):=heap_alloc_new w1 _;refine⟨?_,hbk.frozen _⟩;rw[hbk.cell,Array.getElem?_eq_getElem (by omega)];rfl
 have xP:=qH nc;have ae:=qH (show RB ((w1.alloc (Obj.cells Z 123)).setRow w1.heap.size (Z.setIfInBounds 0 (Value.int .i64 (k:Int)))) (.slice A m c) l by
  rw[zX];exact an.out.below ((Below.refl _ _).alloc (Nat.le_refl _) _))
 have HW:=qH zX;have iF:=qH (show(Tryz.prog.info? 5).map (·.size)=some 1 by obtain⟨i,hi,_,hs,_⟩:=info_parts info5;rw[hi,Option.map_some,hs]);clear hZ rO sd zX nc;go_wp2_with (first
  |(refine wpList_buildTo rfl 123 #[(0,.tmp 18)] rfl (some 19) rfl (Z.setIfInBounds 0 (Value.int .i64 (k:Int))) (by simp only[List.map_toArray,List.map_cons,List.map_nil];exact Jp.out) ?_)
  |(refine wpList_store_row rfl 123 (.tmp 7) (.tmp 19) rfl w1.heap.size (Z.setIfInBounds 0 (Value.int .i64 (k:Int))) rfl rfl 123 Z (heap_alloc_new w1 _) ml.out mh.out pN.out ?_)
  |(refine wpList_copy_mid rfl (.tmp 21) (.tmp 22) 46 46 5 rfl w1.heap.size 1 rfl rfl l HL.out ae.out xP.out Tryz.underlying46 iF.out ?_))
 try simp only[Act.put,zA,zB,zC]
 obtain⟨g7,oE⟩:∃g7,g7=w1.heap.size:=⟨_,rfl⟩
 rw[←oE];obtain⟨w3,hw3⟩:∃w3,w3=((w1.alloc (Obj.cells Z 123)).setRow g7 (Z.setIfInBounds 0 (Value.int IntKind.i64 ↑k))).setCells g7 1 (bvs l):=⟨_,rfl⟩
 rw[←hw3];obtain⟨x,hx⟩:∃x:Wr,x=(k,pad l):=⟨_,rfl⟩
 have hxl:x.2.length=64:=by rw[hx];exact pad_length HL.out
 have nt:=hw3;rw[oE,HW.out] at nt;have br:Blk w3 g7 123 (wc x).toArray:=by
  rw[nt,oE,hx,←setL_pad k l HL.out,mT.out];exact Blk.setCells (bvs l) 1 _ _ (heap_alloc_new w1 _)
 have hr3:Raw D w3 y s.firm s.loose (newL s.firm.length s.loose) s.burnt.fuse.isSome s.nw s.nf:=by
  rw[nt];exact(HR.out.alloc _).farL (fun hd=>Nat.lt_irrefl _ (HR.out.lt _ hd)) _ _
 have hf3:Fr D w w3:=by
  rw[nt];exact(HF.out.alloc _).setCells (.inr HF.out.size) _ _
 have hc1:=hr3.c1;have eo:=hr3.bd.frozen 1;have Gp:=qH (show w3.rangeAt g7 0 (wc x) from fun j u hj=>by rw[Nat.zero_add,br.cell,List.getElem?_toArray];exact hj);have l6:=qH (show(Tryz.prog.info? 123).map (·.size)=some (wc x).length by rw[wc_length hxl];exact size68);have s7:=qH (show ∃z:Value,(Tryz.prog.info? 123).map (fun i=>(i.zero,i.size))=some (some z,(wc x).length)∧z.cells.size=(wc x).length∧0<(wc x).length∧(wc x).length≤1000 from by
  obtain⟨i,hi,hz,hs,_⟩:=info_parts info123;refine⟨_,by rw[hi,Option.map_some,hz,hs,wc_length hxl],?_,?_,?_⟩<;>rw[wc_length hxl]<;>simp[Value.cells])
 have sR:=qH hxl;have bO:=qH hr3;have ip:=qH hf3;have sE:=qH eo;have iT:=qH hc1;have d9:=qH (hr3.lt _ hr3.dg);have mP:=qH (show ∀j,Value.ownBlock (.slice y.A s.loose.length y.c)=some j→D j∨w3.heap.size≤j from fun j hj=>by
  obtain⟨q,e,rfl⟩:=ownBlock_some hj;exact .inl (hr3.dA q e))
 have iP:=qH (show some y.g≠Value.ownBlock (.slice y.A s.loose.length y.c) from fun he=>by
  obtain⟨q,e,e2⟩:=ownBlock_some he.symm;exact(hr3.n4 q e).1 e2)
 have J6:=lK.out.w;have lR:=qH (show s.loose.length+1≤maxLen by unfold maxLen;omega);have lU:=qH (show(s.loose.length+1)*72≤140737488355328 by omega);have Bx:=qH (show(Value.agg (#[.int .i64 0]++Array.replicate 64 (.int .u8 0))).cells.size=65 from by simp[Value.cells]);have HX:=qH hx;have JP:=qH oE;clear hw3 nt br hr3 hf3 eo J6 hx oE hxl lm;refine wp_region_held_drew (S:=fun X=>Fr D w3 X) (by kernel_rfl) (Fr.refl _ _).drew (fun hHeld=>?_);refine tkC 0 ?_;refine tkC 1 ?_;refine tkC 2 ?_;refine tkC 3 ?_;refine rdA (rs:= [4,5]) ?_;refine AllReadyH.cons (o:=⟨some 28,.load 116 (.tmp 27),116,"dev.go:70",#[⟨3,.data⟩],none⟩) rfl (fun K hK=>?_) (AllReadyH.cons (o:=⟨some 29,.load 123 (.tmp 7),123,"dev.go:70",#[],none⟩) rfl (fun K hK=>?_) AllReadyH.nil)
 ·try have uZ:w4.cell? ⟨y.g,1,none⟩=some (.slice y.A s.loose.length y.c):=(World.cell?_of_block (a:=⟨y.g,1,none⟩) (aq.block y.g d9.out)).trans iT.out
  have xR:=iT.out;go_simp;clear xR;try clear uZ
  refine hK.out _ _ ?_ (fun _=>?_)
  ·exact hHeld
  clear hK K;try simp only[Act.put,zA,zB,zC]
  refine rdA (rs:= [5]) ?_;refine arC (fun K hK=>?_);refine step_load_mid (by rfl) 123 (.tmp 7) (by rfl) g7 0 (by rfl) (wc x) _ Gp.out Tryz.underlying123 rfl l6.out ?_;refine hK.out _ _ ?_ (fun _=>?_)
  ·exact hHeld
  clear hK K;try simp only[Act.put,zA,zB,zC]
  refine rdA (rs:= [6]) ?_;refine arC (fun K hK=>?_);refine step_buildOne (by rfl) 116 123 (.tmp 29) (by rfl) (wc x) (by rfl) Tryz.underlying116 s7.out ?_;intro w4 hw4 aq;have eN:=qH hw4;clear hw4;have ac:=Fr.trans (E:=fun _=>False) (Fr.refl D w3).drew (Fr.of_below aq) (fun _ h=>h.elim);refine hK.out _ _ ?_ (fun _=>?_)
  ·exact ac
  clear hK K hHeld;have hHeld:=ac;clear ac;try simp only[Act.put,zA,zB,zC]
  refine rdA (rs:= [7]) ?_;refine arC (fun K hK=>?_);refine step_append_src (by rfl) (.tmp 28) (.tmp 30) 116 116 (by rfl) 0 123 (.agg (#[.int .i64 0]++Array.replicate 64 (.int .u8 0))) 65 72 Tryz.underlying116 info123 Bx.out (by rfl) (own_below (w:=w3.drew) bO.out.rl aq) (by rfl) (src_wc (w:=w3.drew) sR.out eN.out) lR.out lU.out (Nat.zero_le _) ?_;intro v5 w5 ao hgrow5 aY;obtain⟨A5,c5,rfl,_⟩:=own_shape ao;have ac:=Fr.grown hHeld hgrow5 mP.out;refine hK.out _ _ ?_ (fun _=>?_)
  ·exact ac
  clear hK K hHeld;have hHeld:=ac;clear ac;try simp only[Act.put,zA,zB,zC]
  refine tkC 8 ?_;refine tkC 9 ?_;refine rdA (rs:= [10]) ?_;refine arC (fun K hK=>?_);have hq0:=aq.size;have hq1:w5.cell? ⟨y.g,1,none⟩=some (.slice y.A s.loose.length y.c):=(World.cell?_of_block (a:=⟨y.g,1,none⟩) ((hgrow5.block y.g (Nat.lt_of_lt_of_le d9.out hq0) iP.out).trans (aq.block y.g d9.out))).trans iT.out;have hq2:w5.frozen? ⟨y.g,1,none⟩=false:=(World.frozen?_of_block (a:=⟨y.g,1,none⟩) ((hgrow5.block y.g (Nat.lt_of_lt_of_le d9.out hq0) iP.out).trans (aq.block y.g d9.out))).trans sE.out;go_simp;clear hq0 hq1 hq2;have ac:=Fr.setCell (p:=⟨y.g,1,none⟩) hHeld (.inl bO.out.dg) (.slice A5 (s.loose.length+1) c5);refine hK.out _ _ ?_ (fun _=>?_)
  ·exact ac
  clear hK K hHeld;have hHeld:=ac;clear ac;try simp only[Act.put,zA,zB,zC]
  refine wpAnyH_done (by kernel_rfl) ?_ _;have iA:=hHeld;obtain⟨E,gA,rC,rP⟩:=Raw.push bO.out aq ao hgrow5 aY rfl;clear hHeld ao hgrow5 aY eN aq;obtain⟨W5,qT⟩:∃W5,W5=w5.setCell ⟨y.g,1,none⟩ (.slice A5 (s.loose.length+1) c5):=⟨_,rfl⟩
  rw[←qT] at gA iA⊢;have c1:W5.cell? ⟨y.g,1,none⟩=some (.slice A5 (s.loose.length+1) c5):=by have:=gA.c1;rw[List.length_append] at this;exact this
  have c2:W5.cell? ⟨y.g,2,none⟩=some (.slice (some ⟨y.gN,0,none⟩) s.firm.length y.cN):=by have:=gA.c2;rw[newL_length] at this;exact this
  have hn:=gA.newAt (newL_get (L:=s.loose) hk);have m8:=gA.rn.frozenAt k;have hk2:(k:Int)<(s.firm.length:Int):=by omega
  have ur:=qH gA;have eH:=qH iA;have oz:=qH rC;have wi:=qH rP;clear gA iA rC rP qT;unfold iv at hn;go_wp2
  go_region
  clear c1 c2 hn m8;obtain⟨W6,iZ⟩:∃W6,W6=(W5.setCell ⟨y.gN,k,none⟩ (Value.int IntKind.i64 (↑s.loose.length+1))).drew:=⟨_,rfl⟩
  rw[←iZ];have jl:Raw E W6 {y with A:=A5,c:=c5} s.firm (s.loose++ [x]) (newL s.firm.length (s.loose++ [x])) s.burnt.fuse.isSome s.nw s.nf:=by
   rw[iZ];have h9:=ur.out.setNew k (s.loose.length+1);have e9:newL s.firm.length (s.loose++ [x])=(newL s.firm.length s.loose).set k (s.loose.length+1):=by rw[←newL_set,HX.out]
   rw[e9];exact h9.same (fun _ _=>rfl) (Nat.le_refl _)
  have mm:Fr D w W6:=by
   rw[iZ];exact(ip.out.trans (eH.out.setCell (p:=⟨y.gN,k,none⟩) (.inl bO.out.dN) _) (fun _ h=> .inl h)).drew
  have F6:=jl.c5;have Fk:=jl.bd.frozen 5;have HA:=qH (addW s.nw s.nf lK.out.t.1 lK.out.t.2);have hst:∀w,(store ⟨y.g,5,none⟩ (.complex .f64 (fadd s.nw one64) (fadd s.nf 0))).run Tryz.prog w=stored Tryz.prog w ⟨y.g,5,none⟩ (.complex .f64 (fadd s.nw one64) (fadd s.nf 0)) .plain:=fun w=>run_store Tryz.prog w _ _ _ rfl
  have uk:=qH jl;have oL:=qH mm;clear jl mm iZ;go_wp2_with (refine wpList_cadd rfl (.tmp 48) (.const (.complex .f64 4607182418800017408 0)) rfl rfl rfl HA.out ?_)
  go_ret;refine⟨rfl,E,⟨{y with A:=A5,c:=c5},by rw[HY.out],?_,H.out.ok.put hk HL.out hw,yk.out⟩,oL.out.setCell (.inl bO.out.dg) _,fun j hj=>?_⟩
  ·have h9:=uk.out.setTraf (fadd s.nw one64) (fadd s.nf 0)
   rw[HX.out] at h9;exact h9
  ·rcases wi.out j hj with h9|h9
   ·exact .inl h9
   ·exact .inr (Nat.le_trans ip.out.size h9)
 ·refine step_load_mid (by rfl) 123 (.tmp 7) (by rfl) g7 0 (by rfl) (wc x) _ Gp.out Tryz.underlying123 rfl l6.out ?_
  refine hK.out _ _ ?_ (fun _=>?_)
  ·exact hHeld
  clear hK K;try simp only[Act.put,zA,zB,zC]
  refine rdA (rs:= [4,6]) ?_;refine AllReadyH.cons (o:=⟨some 28,.load 116 (.tmp 27),116,"dev.go:70",#[⟨3,.data⟩],none⟩) rfl (fun K hK=>?_) (AllReadyH.cons (o:=⟨some 30,.buildSlice 116 1 #[(0,.tmp 29)],116,"dev.go:70",#[⟨5,.data⟩],none⟩) rfl (fun K hK=>?_) AllReadyH.nil)
  ·try have uZ:w4.cell? ⟨y.g,1,none⟩=some (.slice y.A s.loose.length y.c):=(World.cell?_of_block (a:=⟨y.g,1,none⟩) (aq.block y.g d9.out)).trans iT.out
   have xR:=iT.out;go_simp;clear xR;try clear uZ
   refine hK.out _ _ ?_ (fun _=>?_)
   ·exact hHeld
   clear hK K;try simp only[Act.put,zA,zB,zC]
   refine rdA (rs:= [6]) ?_;refine arC (fun K hK=>?_);refine step_buildOne (by rfl) 116 123 (.tmp 29) (by rfl) (wc x) (by rfl) Tryz.underlying116 s7.out ?_;intro w4 hw4 aq;have eN:=qH hw4;clear hw4;have ac:=Fr.trans (E:=fun _=>False) (Fr.refl D w3).drew (Fr.of_below aq) (fun _ h=>h.elim);refine hK.out _ _ ?_ (fun _=>?_)
   ·exact ac
   clear hK K hHeld;have hHeld:=ac;clear ac;try simp only[Act.put,zA,zB,zC]
   refine rdA (rs:= [7]) ?_;refine arC (fun K hK=>?_);refine step_append_src (by rfl) (.tmp 28) (.tmp 30) 116 116 (by rfl) 0 123 (.agg (#[.int .i64 0]++Array.replicate 64 (.int .u8 0))) 65 72 Tryz.underlying116 info123 Bx.out (by rfl) (own_below (w:=w3.drew) bO.out.rl aq) (by rfl) (src_wc (w:=w3.drew) sR.out eN.out) lR.out lU.out (Nat.zero_le _) ?_;intro v5 w5 ao hgrow5 aY;obtain⟨A5,c5,rfl,_⟩:=own_shape ao;have ac:=Fr.grown hHeld hgrow5 mP.out;refine hK.out _ _ ?_ (fun _=>?_)
   ·exact ac
   clear hK K hHeld;have hHeld:=ac;clear ac;try simp only[Act.put,zA,zB,zC]
   refine tkC 8 ?_;refine tkC 9 ?_;refine rdA (rs:= [10]) ?_;refine arC (fun K hK=>?_);have hq0:=aq.size;have hq1:w5.cell? ⟨y.g,1,none⟩=some (.slice y.A s.loose.length y.c):=(World.cell?_of_block (a:=⟨y.g,1,none⟩) ((hgrow5.block y.g (Nat.lt_of_lt_of_le d9.out hq0) iP.out).trans (aq.block y.g d9.out))).trans iT.out;have hq2:w5.frozen? ⟨y.g,1,none⟩=false:=(World.frozen?_of_block (a:=⟨y.g,1,none⟩) ((hgrow5.block y.g (Nat.lt_of_lt_of_le d9.out hq0) iP.out).trans (aq.block y.g d9.out))).trans sE.out;go_simp;clear hq0 hq1 hq2;have ac:=Fr.setCell (p:=⟨y.g,1,none⟩) hHeld (.inl bO.out.dg) (.slice A5 (s.loose.length+1) c5);refine hK.out _ _ ?_ (fun _=>?_)
   ·exact ac
   clear hK K hHeld;have hHeld:=ac;clear ac;try simp only[Act.put,zA,zB,zC]
   refine wpAnyH_done (by kernel_rfl) ?_ _;have iA:=hHeld;obtain⟨E,gA,rC,rP⟩:=Raw.push bO.out aq ao hgrow5 aY rfl;clear hHeld ao hgrow5 aY eN aq;obtain⟨W5,qT⟩:∃W5,W5=w5.setCell ⟨y.g,1,none⟩ (.slice A5 (s.loose.length+1) c5):=⟨_,rfl⟩
   rw[←qT] at gA iA⊢;have c1:W5.cell? ⟨y.g,1,none⟩=some (.slice A5 (s.loose.length+1) c5):=by have:=gA.c1;rw[List.length_append] at this;exact this
   have c2:W5.cell? ⟨y.g,2,none⟩=some (.slice (some ⟨y.gN,0,none⟩) s.firm.length y.cN):=by have:=gA.c2;rw[newL_length] at this;exact this
   have hn:=gA.newAt (newL_get (L:=s.loose) hk);have m8:=gA.rn.frozenAt k;have hk2:(k:Int)<(s.firm.length:Int):=by omega
   have ur:=qH gA;have eH:=qH iA;have oz:=qH rC;have wi:=qH rP;clear gA iA rC rP qT;unfold iv at hn;go_wp2
   go_region
   clear c1 c2 hn m8;obtain⟨W6,iZ⟩:∃W6,W6=(W5.setCell ⟨y.gN,k,none⟩ (Value.int IntKind.i64 (↑s.loose.length+1))).drew:=⟨_,rfl⟩
   rw[←iZ];have jl:Raw E W6 {y with A:=A5,c:=c5} s.firm (s.loose++ [x]) (newL s.firm.length (s.loose++ [x])) s.burnt.fuse.isSome s.nw s.nf:=by
    rw[iZ];have h9:=ur.out.setNew k (s.loose.length+1);have e9:newL s.firm.length (s.loose++ [x])=(newL s.firm.length s.loose).set k (s.loose.length+1):=by rw[←newL_set,HX.out]
    rw[e9];exact h9.same (fun _ _=>rfl) (Nat.le_refl _)
   have mm:Fr D w W6:=by
    rw[iZ];exact(ip.out.trans (eH.out.setCell (p:=⟨y.gN,k,none⟩) (.inl bO.out.dN) _) (fun _ h=> .inl h)).drew
   have F6:=jl.c5;have Fk:=jl.bd.frozen 5;have HA:=qH (addW s.nw s.nf lK.out.t.1 lK.out.t.2);have hst:∀w,(store ⟨y.g,5,none⟩ (.complex .f64 (fadd s.nw one64) (fadd s.nf 0))).run Tryz.prog w=stored Tryz.prog w ⟨y.g,5,none⟩ (.complex .f64 (fadd s.nw one64) (fadd s.nf 0)) .plain:=fun w=>run_store Tryz.prog w _ _ _ rfl
   have uk:=qH jl;have oL:=qH mm;clear jl mm iZ;go_wp2_with (refine wpList_cadd rfl (.tmp 48) (.const (.complex .f64 4607182418800017408 0)) rfl rfl rfl HA.out ?_)
   go_ret;refine⟨rfl,E,⟨{y with A:=A5,c:=c5},by rw[HY.out],?_,H.out.ok.put hk HL.out hw,yk.out⟩,oL.out.setCell (.inl bO.out.dg) _,fun j hj=>?_⟩
   ·have h9:=uk.out.setTraf (fadd s.nw one64) (fadd s.nf 0)
    rw[HX.out] at h9;exact h9
   ·rcases wi.out j hj with h9|h9
    ·exact .inl h9
    ·exact .inr (Nat.le_trans ip.out.size h9)
  ·refine step_buildOne (by rfl) 116 123 (.tmp 29) (by rfl) (wc x) (by rfl) Tryz.underlying116 s7.out ?_
   intro w4 hw4 aq;have eN:=qH hw4;clear hw4;have ac:=Fr.trans (E:=fun _=>False) (Fr.refl D w3).drew (Fr.of_below aq) (fun _ h=>h.elim);refine hK.out _ _ ?_ (fun _=>?_)
   ·exact ac
   clear hK K hHeld;have hHeld:=ac;clear ac;try simp only[Act.put,zA,zB,zC]
   refine rdA (rs:= [4]) ?_;refine arC (fun K hK=>?_);try have uZ:w4.cell? ⟨y.g,1,none⟩=some (.slice y.A s.loose.length y.c):=(World.cell?_of_block (a:=⟨y.g,1,none⟩) (aq.block y.g d9.out)).trans iT.out
   have xR:=iT.out;go_simp;clear xR;try clear uZ
   refine hK.out _ _ ?_ (fun _=>?_)
   ·exact hHeld
   clear hK K;try simp only[Act.put,zA,zB,zC]
   refine rdA (rs:= [7]) ?_;refine arC (fun K hK=>?_);refine step_append_src (by rfl) (.tmp 28) (.tmp 30) 116 116 (by rfl) 0 123 (.agg (#[.int .i64 0]++Array.replicate 64 (.int .u8 0))) 65 72 Tryz.underlying116 info123 Bx.out (by rfl) (own_below (w:=w3.drew) bO.out.rl aq) (by rfl) (src_wc (w:=w3.drew) sR.out eN.out) lR.out lU.out (Nat.zero_le _) ?_;intro v5 w5 ao hgrow5 aY;obtain⟨A5,c5,rfl,_⟩:=own_shape ao;have ac:=Fr.grown hHeld hgrow5 mP.out;refine hK.out _ _ ?_ (fun _=>?_)
   ·exact ac
   clear hK K hHeld;have hHeld:=ac;clear ac;try simp only[Act.put,zA,zB,zC]
   refine tkC 8 ?_;refine tkC 9 ?_;refine rdA (rs:= [10]) ?_;refine arC (fun K hK=>?_);have hq0:=aq.size;have hq1:w5.cell? ⟨y.g,1,none⟩=some (.slice y.A s.loose.length y.c):=(World.cell?_of_block (a:=⟨y.g,1,none⟩) ((hgrow5.block y.g (Nat.lt_of_lt_of_le d9.out hq0) iP.out).trans (aq.block y.g d9.out))).trans iT.out;have hq2:w5.frozen? ⟨y.g,1,none⟩=false:=(World.frozen?_of_block (a:=⟨y.g,1,none⟩) ((hgrow5.block y.g (Nat.lt_of_lt_of_le d9.out hq0) iP.out).trans (aq.block y.g d9.out))).trans sE.out;go_simp;clear hq0 hq1 hq2;have ac:=Fr.setCell (p:=⟨y.g,1,none⟩) hHeld (.inl bO.out.dg) (.slice A5 (s.loose.length+1) c5);refine hK.out _ _ ?_ (fun _=>?_)
   ·exact ac
   clear hK K hHeld;have hHeld:=ac;clear ac;try simp only[Act.put,zA,zB,zC]
   refine wpAnyH_done (by kernel_rfl) ?_ _;have iA:=hHeld;obtain⟨E,gA,rC,rP⟩:=Raw.push bO.out aq ao hgrow5 aY rfl;clear hHeld ao hgrow5 aY eN aq;obtain⟨W5,qT⟩:∃W5,W5=w5.setCell ⟨y.g,1,none⟩ (.slice A5 (s.loose.length+1) c5):=⟨_,rfl⟩
   rw[←qT] at gA iA⊢;have c1:W5.cell? ⟨y.g,1,none⟩=some (.slice A5 (s.loose.length+1) c5):=by have:=gA.c1;rw[List.length_append] at this;exact this
   have c2:W5.cell? ⟨y.g,2,none⟩=some (.slice (some ⟨y.gN,0,none⟩) s.firm.length y.cN):=by have:=gA.c2;rw[newL_length] at this;exact this
   have hn:=gA.newAt (newL_get (L:=s.loose) hk);have m8:=gA.rn.frozenAt k;have hk2:(k:Int)<(s.firm.length:Int):=by omega
   have ur:=qH gA;have eH:=qH iA;have oz:=qH rC;have wi:=qH rP;clear gA iA rC rP qT;unfold iv at hn;go_wp2
   go_region
   clear c1 c2 hn m8;obtain⟨W6,iZ⟩:∃W6,W6=(W5.setCell ⟨y.gN,k,none⟩ (Value.int IntKind.i64 (↑s.loose.length+1))).drew:=⟨_,rfl⟩
   rw[←iZ];have jl:Raw E W6 {y with A:=A5,c:=c5} s.firm (s.loose++ [x]) (newL s.firm.length (s.loose++ [x])) s.burnt.fuse.isSome s.nw s.nf:=by
    rw[iZ];have h9:=ur.out.setNew k (s.loose.length+1);have e9:newL s.firm.length (s.loose++ [x])=(newL s.firm.length s.loose).set k (s.loose.length+1):=by rw[←newL_set,HX.out]
    rw[e9];exact h9.same (fun _ _=>rfl) (Nat.le_refl _)
   have mm:Fr D w W6:=by
    rw[iZ];exact(ip.out.trans (eH.out.setCell (p:=⟨y.gN,k,none⟩) (.inl bO.out.dN) _) (fun _ h=> .inl h)).drew
   have F6:=jl.c5;have Fk:=jl.bd.frozen 5;have HA:=qH (addW s.nw s.nf lK.out.t.1 lK.out.t.2);have hst:∀w,(store ⟨y.g,5,none⟩ (.complex .f64 (fadd s.nw one64) (fadd s.nf 0))).run Tryz.prog w=stored Tryz.prog w ⟨y.g,5,none⟩ (.complex .f64 (fadd s.nw one64) (fadd s.nf 0)) .plain:=fun w=>run_store Tryz.prog w _ _ _ rfl
   have uk:=qH jl;have oL:=qH mm;clear jl mm iZ;go_wp2_with (refine wpList_cadd rfl (.tmp 48) (.const (.complex .f64 4607182418800017408 0)) rfl rfl rfl HA.out ?_)
   go_ret;refine⟨rfl,E,⟨{y with A:=A5,c:=c5},by rw[HY.out],?_,H.out.ok.put hk HL.out hw,yk.out⟩,oL.out.setCell (.inl bO.out.dg) _,fun j hj=>?_⟩
   ·have h9:=uk.out.setTraf (fadd s.nw one64) (fadd s.nf 0)
    rw[HX.out] at h9;exact h9
   ·rcases wi.out j hj with h9|h9
    ·exact .inl h9
    ·exact .inr (Nat.le_trans ip.out.size h9)
theorem write_any{D:Nat→Prop}{w:World}{v:Value}{s:Sim}(i:Int)(b:Value)(l:List UInt8)(h:Dev D w v s)(hb:RB w b l)(hn:l≠ []→∀j,b.ownBlock=some j→¬D j)(hw:s.loose.length<100000):
  Calls Tryz.prog 188 #[v,.int .i64 i,b] w fun e w'=>e= .returned (.int .u16 (s.wrote i l))∧Did D w v (s.write i l) w':=by
 have H:=qH h
 cases hh:s.has i with
 |false=>
  have e1:s.wrote i l=20:=by simp[Sim.wrote,hh]
  have e2:s.write i l=s:=by simp[Sim.write,hh]
  rw[e1,e2];have HH:=qH hh;clear h hb hn hh e1 e2;go_enter Tryz.func188,Tryz.ntmps188;go_wp2_with fail
  go_at_call 67;refine(has_any _ H.out).mono ?_;rintro e w'⟨rfl,rfl⟩;rw[HH.out];go_wp2;go_ret;exact⟨rfl,Did.same H.out (Fr.refl _ _)⟩
 |true=>
  have hi:=Sim.has_iff.1 hh;obtain⟨k,rfl⟩:∃k:Nat,i=(k:Int):=⟨i.toNat,by omega⟩
  by_cases hl:l.length≤64
  ·have e1:s.wrote k l=0:=by simp[Sim.wrote,hh];omega
   rw[e1]
   cases hg:s.goes with
   |true=>
    have e2:s.write k l=s.put k l:=by simp[Sim.write,hh,hl,hg]
    rw[e2];exact write_yes k b l h (by omega) hl hg hb hn hw
   |false=>
    have e2:s.write k l=s:=by simp[Sim.write,hg]
    rw[e2];have HH:=qH hh;have HG:=qH hg;obtain⟨A,c,rfl,_,_,_⟩:=hb;obtain⟨m,hm⟩:∃m,m=l.length:=⟨_,rfl⟩
    rw[←hm] at hl⊢;have yu:(m:Int)≤64:=by omega
    clear h hn hh e1 e2 hg hm;go_enter Tryz.func188,Tryz.ntmps188;go_wp2_with fail
    go_at_call 67;refine(has_any _ H.out).mono ?_;rintro e w'⟨rfl,rfl⟩;rw[HH.out];go_wp2_with fail
    go_at_call 73;refine(passes_any H.out).mono ?_;rintro e w1⟨rfl,hf,hd⟩;rw[HG.out] at hd⊢;have HF:=qH hf;have HD:=qH hd;clear hf hd;go_wp2;go_ret;exact⟨rfl,Did.same HD.out HF.out⟩
  ·have e1:s.wrote k l=3:=by simp[Sim.wrote,hh];omega
   have e2:s.write k l=s:=by simp[Sim.write,hl]
   rw[e1,e2];have HH:=qH hh;obtain⟨A,c,rfl,_,hc,_⟩:=hb;unfold maxLen at hc;obtain⟨m,hm⟩:∃m,m=l.length:=⟨_,rfl⟩
   rw[←hm] at hl⊢;have yu:64<(m:Int):=by omega
   clear h hn hh e1 e2 hm hc;go_enter Tryz.func188,Tryz.ntmps188;go_wp2_with fail
   go_at_call 67;refine(has_any _ H.out).mono ?_;rintro e w'⟨rfl,rfl⟩;rw[HH.out];go_wp2;go_ret;exact⟨rfl,Did.same H.out (Fr.refl _ _)⟩
section
variable {B:Nat} {w0 w:World} {v:Value} {s:Sim}
theorem own_ptr(h:Own B w v s):∃g,v= .pointer (some ⟨g,0,none⟩):=by
 obtain⟨D,⟨y,h1,_⟩,_⟩:=h;exact⟨y.g,h1⟩
theorem own_new(n:Nat)(w:World)(h:n≤4096)(hB:B≤w.heap.size):Calls Tryz.prog 31 #[.int .i64 (n:Int)] w fun e w'=>∃g,e= .returned (.pointer (some ⟨g,0,none⟩))∧Own B w' (.pointer (some ⟨g,0,none⟩)) (Sim.new n)∧Below B w w':=by
 refine(new_any n w h).mono ?_;rintro e w'⟨v,rfl,ho,hb⟩;obtain⟨g,rfl⟩:=own_ptr ho;obtain⟨D,h1,h2,h3⟩:=ho;exact⟨g,rfl,⟨D,h1,fun k hk=>Nat.le_trans hB (h2 k hk),Nat.le_trans hB h3⟩,hb.mono hB⟩
end
theorem new_firm(n:Nat):(Sim.new n).firm.length=n:=by simp[Sim.new]
def tsD(v:Value):Array Value:=#[v,.slice none 0 0,.int .i64 0,.int .i64 0,.bool false,.int .i64 0]
def z64D:List UInt8:=List.replicate 64 0
def BRd(B:Nat)(w:World)(v:Value)(k:Nat):Prop:=∃us:List Value,us.length=k∧w.ownsRow B 46 1 v k us∧∀u∈us,FB 5 w B u z64D
theorem BRd.setCell{B:Nat}{w:World}{v:Value}{k:Nat}(h:BRd B w v k){p:Addr}(hp:p.block<B)(u:Value):BRd B (w.setCell p u) v k:=by
 obtain⟨us,h1,h2,h3⟩:=h;exact⟨us,h1,ownsRow_setCell_below h2 hp u,fun x hx=>(h3 x hx).setCell hp u⟩
theorem src_new{w w4:World}{u:Value}{a:Option Addr}{n c:Nat}(h:w4=w.alloc (.cells #[u] 46))(hu:u= .slice a n c:=by rfl):Src Tryz.prog 1 26 (.slice (some ⟨w.heap.size,0,none⟩) 1 1) 1 [u] w4:=by
 subst h;exact src_one w Tryz.underlying26 46 u (by rw[hu];rfl)
theorem BRd.push{B k:Nat}{wr w2 w4 w5:World}{v v5:Value}{g:Nat}{us:List Value}(h1:us.length=k)(h3:∀u∈us,FB 5 wr B u z64D)(h2:wr.ownsRow B 46 1 v k us)(ho:w2.ownsRow B 5 1 (.slice (some ⟨g,0,none⟩) 64 64) 64 (madeCells (Value.int .u8 0).cells (64*1)).toList)(hg2:wr.drew.grownBy w2 none)(hb4:Below w2.heap.size w2 w4)
  (aI:w5.ownsRow B 46 1 v5 (k+1) (us++ [.slice (some ⟨g,0,none⟩) 64 64])) (hg5:w4.grownBy w5 v.ownBlock):BRd B w5 v5 (k+1):=by
 have h4:w4.ownsRow B 46 1 v k us:=own_below (own_grownD (w:=wr.drew) h2 hg2) hb4;refine⟨us++ [.slice (some ⟨g,0,none⟩) 64 64],by simp[h1],aI,fun u hu=>?_⟩;rcases List.mem_append.1 hu with hu|hu
 ·have f2:FB 5 w2 B u z64D:=(h3 u hu).block_ fun b _ _ hb=>(hg2.block b (Array.getElem?_eq_some_iff.1 hb).1 (by simp)).trans hb
  exact(f2.below hb4).grown h4 (by decide) hg5
 ·have e:(madeCells (Value.int .u8 0).cells (64*1)).toList=bvs z64D:=by
   rw[Nat.mul_one];have:=toList_madeCells_one (.int .u8 0) 64
   simpa [z64D,bvs,bv,Value.cells,List.map_replicate] using this
  rw[e] at ho;have f2:FB 5 w2 B (.slice (some ⟨g,0,none⟩) 64 64) z64D:=FB.own (l:=z64D) (by simpa [z64D] using ho);obtain rfl:u= .slice (some ⟨g,0,none⟩) 64 64:=by simpa using hu
  exact(f2.below hb4).grown h4 (by decide) hg5
theorem BRd.sr{A:Nat→Prop}{B n:Nat}{w:World}{v:Value}(h:BRd B w v n)(hA:∀k,B≤k→k<w.heap.size→¬A k):SRd A w v (List.replicate n z64D):=by
 obtain⟨us,h1,h2,h3⟩:=h;subst h1;refine⟨us.map fun u=>(z64D,u),?_,?_,fun q hq=>?_⟩
 ·rw[List.map_map]
  exact List.map_const'
 ·rw[List.length_replicate,List.map_map,show((·.2)∘fun u:Value=>(z64D,u))=id from rfl,List.map_id]
  exact RowD.own h2 hA
 ·obtain⟨u,hu,rfl⟩:=List.mem_map.1 hq
  refine⟨(h3 u hu).rb,fun _ k hk ha=>?_⟩;rcases h3 u hu with ⟨_,h0⟩|⟨b,c,cur,fr,he,hb,hg,_⟩
  ·exact absurd (congrArg List.length h0) (by simp[z64D])
  ·rw[he] at hk
   have hkb:b=k:=by simpa [Value.ownBlock] using hk
   subst hkb;exact hA b hb (Array.getElem?_eq_some_iff.1 hg).1 ha
theorem refnew_any{A:Nat→Prop}(n:Nat)(w:World)(h:n≤4096)(hA:∀k,A k→k<w.heap.size):
  Calls Tryz.prog 37 #[.int .i64 (n:Int)] w (MadeD2 A w (Sim.new n) (.bool true)):=by
 obtain⟨i5,hi5,jv,hs5,au⟩:=info_parts info5;have kS:=qH hi5;have lA:=qH jv;have iF:=qH hs5;have ax:=qH (show i5.bytes*64≤281474976710656 by rw[au];omega);have AH:=qH (show 64≤maxLen by unfold maxLen;omega);clear hi5 jv hs5 au;have HA:=qH hA;clear hA;have h1:decide ((n:Int)<0)=false:=by simp
 have h2:¬4096<(n:Int):=by omega
 go_enter Tryz.func37,Tryz.ntmps37;go_wp2;obtain⟨g4,hg4⟩:∃g4,g4=w.heap.size+1:=⟨_,rfl⟩
 obtain⟨W1,hW1⟩:∃W1,W1=(w.alloc (Obj.cells #[Value.slice none 0 0,Value.slice none 0 0,Value.int IntKind.i64 0,Value.int IntKind.i64 0,Value.bool false,Value.int IntKind.i64 0] 29)).alloc (Obj.cells #[Value.slice none 0 0,Value.slice none 0 0,Value.int IntKind.i64 0,Value.int IntKind.i64 0,Value.bool false,Value.int IntKind.i64 0] 29):=⟨_,rfl⟩
 rw[←hW1,←hg4];have hb2:Dv.Blk W1 w.heap.size 29 (tsD (.slice none 0 0)):=by rw[hW1];exact heap_alloc2_old w _ _
 have hb4:Dv.Blk W1 g4 29 (tsD (.slice none 0 0)):=by rw[hW1,hg4];exact heap_alloc2_new w _ _
 have aj:Below w.heap.size w W1:=by rw[hW1];exact below2 w _ _
 have ae:=qH hb2;have Db:=qH hb4;have aw:=qH aj;have jo:=qH (show g4≤W1.heap.size by rw[hW1,hg4];simp);have ci:=qH hg4;clear hW1 hb2 hb4 aj hg4
 go_loopw [5] (fun i wr=>∃(k:Nat) (vS:Value),k≤n∧i= .int .i64 k∧Dv.Blk wr g4 29 (tsD vS)∧BRd (g4+1) wr vS k∧Below g4 W1 wr) (fun i _=>n-(intOf i).toNat)
 case atStart=>exact⟨0,_,Nat.zero_le _,rfl,Db.out,⟨[],rfl,World.ownsRow_nil _ _ _ _,fun u hu=>by cases hu⟩,Below.refl _ _⟩
 case round=>
  obtain⟨k,vS,hk,rfl,hb4,hbr,ad⟩:=hrel;obtain⟨us,eY,ah,CC⟩:=id hbr;obtain⟨aS,cS,rfl,_⟩:=own_shape ah;have ai:=qH hb4;have BF:=qH hbr;have tt:=qH ad;have mi:=qH ah;have bt:=qH eY;have CD:=qH CC;have ig:=qH (show g4+1≤wr.heap.size from hb4.lt);have lR:=qH (show k+1≤maxLen by unfold maxLen;omega);have lU:=qH (show(k+1)*24≤140737488355328 by omega);by_cases hlt:k<n
  ·have hk1:(k:Int)<(n:Int):=by omega
   clear hb4 hbr ad ah CC eY;go_wp2_with fail
   refine wp_region_held_drew (S:=fun X=>Below g4 W1 X) (by kernel_rfl) tt.out.drew (fun hHeld=>?_);refine tkC 0 ?_;refine rdA (rs:= [1,2]) ?_;refine AllReadyH.cons (o:=⟨some 20,.load 26 (.tmp 19),26,"ref.go:27",#[⟨0,.data⟩],none⟩) rfl (fun K hK=>?_) (AllReadyH.cons (o:=⟨some 21,.makeSlice 46 (.const (.int .i64 64)) (.const (.int .i64 64)),46,"ref.go:27",#[],none⟩) rfl (fun K hK=>?_) AllReadyH.nil)
   ·have hq1:wr.cell? ⟨g4,0,none⟩=some (.slice aS k cS):=ai.out.cell 0
    try have hq2:w2.cell? ⟨g4,0,none⟩=some (.slice aS k cS):=(ai.out.same (w':=w2) (hgrow2.block g4 ai.out.lt (by simp))).cell 0
    try have xz:w4.cell? ⟨g4,0,none⟩=some (.slice aS k cS):=((ai.out.same (w':=w2) (hgrow2.block g4 ai.out.lt (by simp))).below aq (Nat.lt_of_lt_of_le ai.out.lt hgrow2.size)).cell 0
    go_simp;clear hq1;try clear hq2
    try clear xz
    refine hK.out _ _ ?_ (fun _=>?_)
    ·exact hHeld
    clear hK K;try simp only[Act.put,zA,zB,zC]
    refine rdA (rs:= [2]) ?_;refine arC (fun K hK=>?_);refine step_make (by rfl) (.const (.int .i64 64)) (.const (.int .i64 64)) 46 (by rfl) (g4+1) 5 i5 (.int .u8 0) 1 Tryz.underlying46 kS.out lA.out iF.out .i64 .i64 _ _ 64 (by rfl) (by rfl) rfl rfl ax.out AH.out ig.out ?_;intro w2 hown2 hgrow2;have ac:=hHeld.grown hgrow2 (Nat.le_trans jo.out hHeld.size) (fun k hk=>by cases hk);refine hK.out _ _ ?_ (fun _=>?_)
    ·exact ac
    clear hK K hHeld;have hHeld:=ac;clear ac;try simp only[Act.put,zA,zB,zC]
    refine rdA (rs:= [3]) ?_;refine arC (fun K hK=>?_);go_simp;refine gen_alloc ?_;intro w4 hw4 aq;have eN:=qH hw4;clear hw4;try (go_wp2_with fail)
    have ac:=hHeld.trans (aq.mono (Nat.le_trans jo.out hHeld.size));refine hK.out _ _ ?_ (fun _=>?_)
    ·exact ac
    clear hK K hHeld;have hHeld:=ac;clear ac;try simp only[Act.put,zA,zB,zC]
    refine rdA (rs:= [4]) ?_;refine arC (fun K hK=>?_);refine step_append_src (by rfl) (.tmp 20) (.tmp 22) 26 26 (by rfl) (g4+1) 46 (.slice none 0 0) 1 24 Tryz.underlying26 info46 rfl (by rfl) (own_below (own_grownD (w:=wr.drew) mi.out hgrow2) aq) (by rfl) (src_new eN.out) lR.out lU.out (Nat.le_trans (Nat.le_trans ig.out hgrow2.size) aq.size) ?_;intro v5 w5 ao hgrow5 _;obtain⟨a5,c5,rfl,_⟩:=own_shape ao;have dj:some g4≠Value.ownBlock (.slice aS k cS):=fun he=>by have:=(mi.out.lt g4 he.symm).1;omega
    have ac:=hHeld.grown hgrow5 (Nat.le_trans jo.out hHeld.size) (fun j hj=>by have:=(mi.out.lt j hj).1;omega);refine hK.out _ _ ?_ (fun _=>?_)
    ·exact ac
    clear hK K hHeld;have hHeld:=ac;clear ac;try simp only[Act.put,zA,zB,zC]
    refine tkC 5 ?_;refine rdA (rs:= [6]) ?_;refine arC (fun K hK=>?_);have aY:Dv.Blk w5 g4 29 (tsD (.slice aS k cS)):=((ai.out.same (w':=w2) (hgrow2.block g4 ai.out.lt (by simp))).below aq (Nat.lt_of_lt_of_le ai.out.lt hgrow2.size)).same (hgrow5.block g4 (Nat.lt_of_lt_of_le (Nat.lt_of_lt_of_le ai.out.lt hgrow2.size) aq.size) dj);have hq1:w5.cell? ⟨g4,0,none⟩=some (.slice aS k cS):=aY.cell 0;have hq2:=aY.frozen 0;go_simp;clear hq1 hq2;have ac:=Below.setCell (p:=⟨g4,0,none⟩) hHeld (Nat.le_refl g4) (.slice a5 (k+1) c5);refine hK.out _ _ ?_ (fun _=>?_)
    ·exact ac
    clear hK K hHeld;have hHeld:=ac;clear ac;try simp only[Act.put,zA,zB,zC]
    refine wpAnyH_done (by kernel_rfl) ?_ _;have qM:=qH (BRd.push bt.out CD.out mi.out hown2 hgrow2 aq ao hgrow5);have kM:=qH (aY.set_ 0 (.slice a5 (k+1) c5));have xw:=qH hHeld;clear hHeld hown2 hgrow2 aq ao hgrow5 aY eN;go_wp2;go_roundw
    case rel=>exact⟨k+1,_,by omega,by go_num,kM.out,qM.out.setCell (by show g4<g4+1;omega) _,xw.out⟩
    case measure=>simp[intOf];omega
   ·refine step_make (by rfl) (.const (.int .i64 64)) (.const (.int .i64 64)) 46 (by rfl) (g4+1) 5 i5 (.int .u8 0) 1 Tryz.underlying46 kS.out lA.out iF.out .i64 .i64 _ _ 64 (by rfl) (by rfl) rfl rfl ax.out AH.out ig.out ?_
    intro w2 hown2 hgrow2;have ac:=hHeld.grown hgrow2 (Nat.le_trans jo.out hHeld.size) (fun k hk=>by cases hk);refine hK.out _ _ ?_ (fun _=>?_)
    ·exact ac
    clear hK K hHeld;have hHeld:=ac;clear ac;try simp only[Act.put,zA,zB,zC]
    refine rdA (rs:= [1,3]) ?_;refine AllReadyH.cons (o:=⟨some 20,.load 26 (.tmp 19),26,"ref.go:27",#[⟨0,.data⟩],none⟩) rfl (fun K hK=>?_) (AllReadyH.cons (o:=⟨some 22,.buildSlice 26 1 #[(0,.tmp 21)],26,"ref.go:27",#[⟨2,.data⟩],none⟩) rfl (fun K hK=>?_) AllReadyH.nil)
    ·have hq1:wr.cell? ⟨g4,0,none⟩=some (.slice aS k cS):=ai.out.cell 0
     try have hq2:w2.cell? ⟨g4,0,none⟩=some (.slice aS k cS):=(ai.out.same (w':=w2) (hgrow2.block g4 ai.out.lt (by simp))).cell 0
     try have xz:w4.cell? ⟨g4,0,none⟩=some (.slice aS k cS):=((ai.out.same (w':=w2) (hgrow2.block g4 ai.out.lt (by simp))).below aq (Nat.lt_of_lt_of_le ai.out.lt hgrow2.size)).cell 0
     go_simp;clear hq1;try clear hq2
     try clear xz
     refine hK.out _ _ ?_ (fun _=>?_)
     ·exact hHeld
     clear hK K;try simp only[Act.put,zA,zB,zC]
     refine rdA (rs:= [3]) ?_;refine arC (fun K hK=>?_);go_simp;refine gen_alloc ?_;intro w4 hw4 aq;have eN:=qH hw4;clear hw4;try (go_wp2_with fail)
     have ac:=hHeld.trans (aq.mono (Nat.le_trans jo.out hHeld.size));refine hK.out _ _ ?_ (fun _=>?_)
     ·exact ac
     clear hK K hHeld;have hHeld:=ac;clear ac;try simp only[Act.put,zA,zB,zC]
     refine rdA (rs:= [4]) ?_;refine arC (fun K hK=>?_);refine step_append_src (by rfl) (.tmp 20) (.tmp 22) 26 26 (by rfl) (g4+1) 46 (.slice none 0 0) 1 24 Tryz.underlying26 info46 rfl (by rfl) (own_below (own_grownD (w:=wr.drew) mi.out hgrow2) aq) (by rfl) (src_new eN.out) lR.out lU.out (Nat.le_trans (Nat.le_trans ig.out hgrow2.size) aq.size) ?_;intro v5 w5 ao hgrow5 _;obtain⟨a5,c5,rfl,_⟩:=own_shape ao;have dj:some g4≠Value.ownBlock (.slice aS k cS):=fun he=>by have:=(mi.out.lt g4 he.symm).1;omega
     have ac:=hHeld.grown hgrow5 (Nat.le_trans jo.out hHeld.size) (fun j hj=>by have:=(mi.out.lt j hj).1;omega);refine hK.out _ _ ?_ (fun _=>?_)
     ·exact ac
     clear hK K hHeld;have hHeld:=ac;clear ac;try simp only[Act.put,zA,zB,zC]
     refine tkC 5 ?_;refine rdA (rs:= [6]) ?_;refine arC (fun K hK=>?_);have aY:Dv.Blk w5 g4 29 (tsD (.slice aS k cS)):=((ai.out.same (w':=w2) (hgrow2.block g4 ai.out.lt (by simp))).below aq (Nat.lt_of_lt_of_le ai.out.lt hgrow2.size)).same (hgrow5.block g4 (Nat.lt_of_lt_of_le (Nat.lt_of_lt_of_le ai.out.lt hgrow2.size) aq.size) dj);have hq1:w5.cell? ⟨g4,0,none⟩=some (.slice aS k cS):=aY.cell 0;have hq2:=aY.frozen 0;go_simp;clear hq1 hq2;have ac:=Below.setCell (p:=⟨g4,0,none⟩) hHeld (Nat.le_refl g4) (.slice a5 (k+1) c5);refine hK.out _ _ ?_ (fun _=>?_)
     ·exact ac
     clear hK K hHeld;have hHeld:=ac;clear ac;try simp only[Act.put,zA,zB,zC]
     refine wpAnyH_done (by kernel_rfl) ?_ _;have qM:=qH (BRd.push bt.out CD.out mi.out hown2 hgrow2 aq ao hgrow5);have kM:=qH (aY.set_ 0 (.slice a5 (k+1) c5));have xw:=qH hHeld;clear hHeld hown2 hgrow2 aq ao hgrow5 aY eN;go_wp2;go_roundw
     case rel=>exact⟨k+1,_,by omega,by go_num,kM.out,qM.out.setCell (by show g4<g4+1;omega) _,xw.out⟩
     case measure=>simp[intOf];omega
    ·go_simp
     refine gen_alloc ?_;intro w4 hw4 aq;have eN:=qH hw4;clear hw4;try (go_wp2_with fail)
     have ac:=hHeld.trans (aq.mono (Nat.le_trans jo.out hHeld.size));refine hK.out _ _ ?_ (fun _=>?_)
     ·exact ac
     clear hK K hHeld;have hHeld:=ac;clear ac;try simp only[Act.put,zA,zB,zC]
     refine rdA (rs:= [1]) ?_;refine arC (fun K hK=>?_);have hq1:wr.cell? ⟨g4,0,none⟩=some (.slice aS k cS):=ai.out.cell 0;try have hq2:w2.cell? ⟨g4,0,none⟩=some (.slice aS k cS):=(ai.out.same (w':=w2) (hgrow2.block g4 ai.out.lt (by simp))).cell 0
     try have xz:w4.cell? ⟨g4,0,none⟩=some (.slice aS k cS):=((ai.out.same (w':=w2) (hgrow2.block g4 ai.out.lt (by simp))).below aq (Nat.lt_of_lt_of_le ai.out.lt hgrow2.size)).cell 0
     go_simp;clear hq1;try clear hq2
     try clear xz
     refine hK.out _ _ ?_ (fun _=>?_)
     ·exact hHeld
     clear hK K;try simp only[Act.put,zA,zB,zC]
     refine rdA (rs:= [4]) ?_;refine arC (fun K hK=>?_);refine step_append_src (by rfl) (.tmp 20) (.tmp 22) 26 26 (by rfl) (g4+1) 46 (.slice none 0 0) 1 24 Tryz.underlying26 info46 rfl (by rfl) (own_below (own_grownD (w:=wr.drew) mi.out hgrow2) aq) (by rfl) (src_new eN.out) lR.out lU.out (Nat.le_trans (Nat.le_trans ig.out hgrow2.size) aq.size) ?_;intro v5 w5 ao hgrow5 _;obtain⟨a5,c5,rfl,_⟩:=own_shape ao;have dj:some g4≠Value.ownBlock (.slice aS k cS):=fun he=>by have:=(mi.out.lt g4 he.symm).1;omega
     have ac:=hHeld.grown hgrow5 (Nat.le_trans jo.out hHeld.size) (fun j hj=>by have:=(mi.out.lt j hj).1;omega);refine hK.out _ _ ?_ (fun _=>?_)
     ·exact ac
     clear hK K hHeld;have hHeld:=ac;clear ac;try simp only[Act.put,zA,zB,zC]
     refine tkC 5 ?_;refine rdA (rs:= [6]) ?_;refine arC (fun K hK=>?_);have aY:Dv.Blk w5 g4 29 (tsD (.slice aS k cS)):=((ai.out.same (w':=w2) (hgrow2.block g4 ai.out.lt (by simp))).below aq (Nat.lt_of_lt_of_le ai.out.lt hgrow2.size)).same (hgrow5.block g4 (Nat.lt_of_lt_of_le (Nat.lt_of_lt_of_le ai.out.lt hgrow2.size) aq.size) dj);have hq1:w5.cell? ⟨g4,0,none⟩=some (.slice aS k cS):=aY.cell 0;have hq2:=aY.frozen 0;go_simp;clear hq1 hq2;have ac:=Below.setCell (p:=⟨g4,0,none⟩) hHeld (Nat.le_refl g4) (.slice a5 (k+1) c5);refine hK.out _ _ ?_ (fun _=>?_)
     ·exact ac
     clear hK K hHeld;have hHeld:=ac;clear ac;try simp only[Act.put,zA,zB,zC]
     refine wpAnyH_done (by kernel_rfl) ?_ _;have qM:=qH (BRd.push bt.out CD.out mi.out hown2 hgrow2 aq ao hgrow5);have kM:=qH (aY.set_ 0 (.slice a5 (k+1) c5));have xw:=qH hHeld;clear hHeld hown2 hgrow2 aq ao hgrow5 aY eN;go_wp2;go_roundw
     case rel=>exact⟨k+1,_,by omega,by go_num,kM.out,qM.out.setCell (by show g4<g4+1;omega) _,xw.out⟩
     case measure=>simp[intOf];omega
  ·obtain rfl:k=n:=by omega
   have bW:=qH (ae.out.below ad (by have:=ci.out;omega));have lI:=qH (aw.out.trans (ad.mono (by have:=ci.out;omega)));have c0:wr.cell? ⟨g4,0,none⟩=some (.slice aS k cS):=ai.out.cell 0;have c1:wr.cell? ⟨g4,1,none⟩=some (.slice none 0 0):=ai.out.cell 1;have c2:wr.cell? ⟨g4,2,none⟩=some (.int .i64 0):=ai.out.cell 2;have c3:wr.cell? ⟨g4,3,none⟩=some (.int .i64 0):=ai.out.cell 3;have c4:wr.cell? ⟨g4,4,none⟩=some (.bool false):=ai.out.cell 4;have c5:wr.cell? ⟨g4,5,none⟩=some (.int .i64 0):=ai.out.cell 5;have d0:wr.cell? ⟨w.heap.size,0,none⟩=some (.slice none 0 0):=bW.out.cell 0;have d1:wr.cell? ⟨w.heap.size,1,none⟩=some (.slice none 0 0):=bW.out.cell 1;have d2:wr.cell? ⟨w.heap.size,2,none⟩=some (.int .i64 0):=bW.out.cell 2;have d3:wr.cell? ⟨w.heap.size,3,none⟩=some (.int .i64 0):=bW.out.cell 3;have d4:wr.cell? ⟨w.heap.size,4,none⟩=some (.bool false):=bW.out.cell 4;have d5:wr.cell? ⟨w.heap.size,5,none⟩=some (.int .i64 0):=bW.out.cell 5;have df:∀i,wr.frozen? ⟨w.heap.size,i,none⟩=false:=bW.out.frozen;have l2:w.heap.size<wr.heap.size:=bW.out.lt;clear hb4 hbr ad ah CC eY;go_wp2_with fail
   have hblk:=blk_six bW.out (.slice aS k cS) (.slice none 0 0) (.int .i64 0) (.int .i64 0) (.bool false) (.int .i64 0);have e0:=hblk.cell 0;have e1:=hblk.cell 1;have e2:=hblk.cell 2;have e3:=hblk.cell 3;have e4:=hblk.cell 4;have e5:=hblk.cell 5;refine bodyPost_ret (v:= .tuple #[.agg #[.slice aS k cS,.slice none 0 0,.int .i64 0,.int .i64 0,.bool false,.int .i64 0],.bool true]) (by simp[results,Tryz.results37,go_sem,e0,e1,e2,e3,e4,e5]) rfl ?_;have ay:=fr_six (Fr.refl (fun j=>j=w.heap.size) wr) (.inl rfl) (.slice aS k cS) (.slice none 0 0) (.int .i64 0) (.int .i64 0) (.bool false) (.int .i64 0);have Be:=(BF.out.sr (A:=fun j=>A j∨j=w.heap.size) (fun j hj _ ha=>by
    have:=ci.out;rcases ha with ha|ha
    ·have:=HA.out j ha;omega
    ·omega)).fr (A':=A) ay (fun j hj=> .inr hj) (fun j hj=> .inl (.inl hj))
   have el:(Sim.new k).firm.length=k:=by simp[Sim.new]
   refine⟨_,rfl,⟨.slice aS k cS,.slice none 0 0,0,0,0,rfl,Be,LRd.nil_ _ _,fun j hj=>by cases hj⟩,lI.out.trans (ay.below (fun j hj=>by omega) (Nat.le_of_lt l2))⟩
end Go.Proofs.YtmbkaedhllfoeaaGreat
