/-
  Texts of the proof, put together.
-/
import Derived.OwnWalk
import Derived.Deep.AppendSrc
import Derived.Test.YtmbkaedhllfoeaaGreatKPD
import Derived.Test.YtmbkaedhllfoeaaGreatKPF
import Derived.Test.YtmbkaedhllfoeaaGreatKPCD
import Derived.Test.YtmbkaedhllfoeaaGreatKPWr
set_option maxRecDepth 100000
set_option maxHeartbeats 4000000
set_option linter.unusedVariables false
namespace Go.Proofs.YtmbkaedhllfoeaaGreat
open Go.RowKit Go.Rst Go.Dv
theorem step_make{P:Program}{w:World}{ops:Array Oper}{o:Oper}{a:Act}{K:Act→World→Prop}{Q:Exit→Act→World→Prop}{E:Prop}(hgd:o.guard=none)(l c:Operand)(t:TypeId)(hop:o.op=Op.makeSlice t l c)
  (base:Nat) (e:TypeId) (i:TypeInfo) (z:Value) (size:Nat) (h1:P.underlying t=some (.slice e)) (h2:P.info? e=some i) (h3:i.zero=some z) (h4:i.size=size)
  (kl kc:IntKind) (L C:Int) (n:Nat) (hl:a.eval l= .int kl L) (hc:a.eval c= .int kc C) (hL:L=(n:Int)) (hC:C=(n:Int)) (b2:i.bytes*n≤281474976710656) (b3:n≤maxLen) (b4:base≤w.heap.size)
  (hK:∀w',w'.ownsRow base e size (.slice (some ⟨w.heap.size,0,none⟩) n n) n (madeCells z.cells (n*size)).toList→w.grownBy w' none→K (a.put o.dst (.slice (some ⟨w.heap.size,0,none⟩) n n)) w'):
  if Region.wanted o (yielded ops a.tmps)=true then Oper.wp P o a w K Q else E:=by
 have hw:Region.wanted o (yielded ops a.tmps)=true:=by simp[Region.wanted,hgd]
 rw[if_pos hw];obtain⟨w',hrun,r1,r2⟩:=run_make_full (P:=P) w base t e i z size h1 h2 h3 h4 kl kc n b2 b3 b4;subst hL;subst hC;unfold Oper.wp;simp[execOp,hop,hl,hc,hrun,Result.andThen];exact hK w' r1 r2
theorem gen_alloc{K:World→Prop}{W:World}{o:Obj}(h:∀w',w'=W.alloc o→Below W.heap.size W w'→K w'):K (W.alloc o):=h _ rfl ((Below.refl _ _).alloc (Nat.le_refl _) _)
theorem gen_allocD{K:World→Prop}{W:World}{o:Obj}(h:∀w',w'=(W.alloc o).drew→Below W.heap.size W w'→K w'):K (W.alloc o).drew:=h _ rfl ((Below.refl _ _).alloc (Nat.le_refl _) _).drew
theorem made_firm(n:Nat):(madeCells (Value.agg (Array.replicate 64 (.int .u8 0))).cells (n*64)).toList=fcs (List.replicate n (List.replicate 64 0)):=by
 have hall:∀x∈List.replicate n (List.replicate 64 (0:UInt8)),x.length=64:=fun x hx=>by rw[List.eq_of_mem_replicate hx];simp
 apply List.ext_getElem
 ·rw[Array.length_toList,size_madeCells,fcs_length hall];simp
 ·intro j h1 h2
  have hj:j<n*64:=by rw[Array.length_toList,size_madeCells] at h1;exact h1
  have hb:bvs (List.replicate 64 (0:UInt8))=List.replicate 64 (bv 0):=by unfold bvs;rw[List.map_replicate]
  have e:=fcs_get hall (i:=j/64) (j:=j%64) (by rw[List.length_replicate];omega) (Nat.mod_lt _ (by decide));rw[show j/64*64+j%64=j from by omega,List.getElem?_eq_getElem h2,List.getElem_replicate,hb,List.getElem?_replicate,if_pos (Nat.mod_lt _ (by decide))] at e;injection e with e;rw[e];have hz:(Array.replicate 64 (Value.int .u8 0)).size=64:=by simp
  have hm:j%64<64:=Nat.mod_lt _ (by decide);simp only[madeCells,Value.cells,Array.toList_map,List.getElem_map,Array.getElem_toList,Array.getElem_range,hz];rw[getElem!_pos _ _ (by rw[hz];exact hm),Array.getElem_replicate];rfl
theorem made_new(n:Nat):(madeCells (Value.int .i64 0).cells (n*1)).toList=(List.replicate n 0).map iv:=by
 rw[Nat.mul_one];have:=toList_madeCells_one (.int .i64 0) n
 simpa [iv,Value.cells] using this
theorem new_mk{w w4:World}{n g gF gN:Nat}(hn:n≤4096)(hF:w4.ownsRow 0 121 64 (.slice (some ⟨gF,0,none⟩) n n) n (madeCells (Value.agg (Array.replicate 64 (.int .u8 0))).cells (n*64)).toList)
  (hN:w4.ownsRow 0 3 1 (.slice (some ⟨gN,0,none⟩) n n) n (madeCells (Value.int .i64 0).cells (n*1)).toList)
  (hb:Blk w4 g 119 #[.slice (some ⟨gF,0,none⟩) n n,.slice none 0 0,.slice (some ⟨gN,0,none⟩) n n,.bool false,.int .i64 0,.complex .f64 0 0])
  (b1:w.heap.size≤gF∧gF<w4.heap.size) (b2:w.heap.size≤gN∧gN<w4.heap.size) (b3:w.heap.size≤g) (n1:g≠gF) (n2:g≠gN) (n3:gF≠gN) (hs:w.heap.size≤w4.heap.size):
  Own w.heap.size w4 (.pointer (some ⟨g,0,none⟩)) (Sim.new n):=by
 rw[made_firm] at hF;rw[made_new] at hN;refine⟨fun k=>k=g∨k=gF∨k=gN,⟨⟨g,gF,gN,n,n,none,0,0⟩,rfl,⟨?_,?_,World.ownsRow_nil _ _ _ _,?_,.inl rfl,.inr (.inl rfl),.inr (.inr rfl),fun p hp=>(by cases hp),fun k hk=>?_,n1,n2,n3,fun p hp=>(by cases hp)⟩,OK.new hn,fun k hk=>(by cases hk)⟩,fun k hk=>?_,hs⟩
 ·have e:(dcs ⟨g,gF,gN,n,n,none,0,0⟩ (Sim.new n).firm.length (Sim.new n).loose.length (newL (Sim.new n).firm.length (Sim.new n).loose).length (Sim.new n).fuse.isSome (Sim.new n).nw (Sim.new n).nf)=#[.slice (some ⟨gF,0,none⟩) n n,.slice none 0 0,.slice (some ⟨gN,0,none⟩) n n,.bool false,.int .i64 0,.complex .f64 0 0]:=by
   simp only[dcs,newL_length];have e1:(Sim.new n).firm.length=n:=by simp[Sim.new]
   rw[e1];have e2:(Sim.new n).nw=0:=rfl;have e3:(Sim.new n).nf=0:=rfl;rw[e2,e3];rfl
  rw[e];exact hb
 ·have e1:(Sim.new n).firm.length=n:=by simp[Sim.new]
  rw[e1];exact hF
 ·have e1:(Sim.new n).firm.length=n:=by simp[Sim.new]
  have e2:(Sim.new n).loose= []:=rfl;rw[e1,e2,newL_nil,List.length_replicate];exact hN
 ·rcases hk with rfl|rfl|rfl
  ·exact hb.lt
  ·exact b1.2
  ·exact b2.2
 ·rcases hk with rfl|rfl|rfl
  ·exact b3
  ·exact b1.1
  ·exact b2.1
theorem own_grownD{w w':World}{base:Nat}{e:TypeId}{size:Nat}{v:Value}{n:Nat}{xs:List Value}(h:w.ownsRow base e size v n xs)(hg:w.grownBy w' none):w'.ownsRow base e size v n xs:=
 own_same h (fun k hk=>hg.block k (h.lt k hk).2 (by simp))
theorem new_any(n:Nat)(w:World)(h:n≤4096):
  Calls Tryz.prog 31 #[.int .i64 (n:Int)] w fun e w'=>∃v,e= .returned v∧Own w.heap.size w' v (Sim.new n)∧Below w.heap.size w w':=by
 obtain⟨CT,yi,wC,za,y6⟩:=info_parts info121;obtain⟨i3,FR,hz3,hs3,hb3⟩:=info_parts info3;have wS:=qH yi;have xh:=qH wC;have jW:=qH za;have GM:=qH FR;have Fx:=qH hz3;have uW:=qH hs3;have wa:=qH (show CT.bytes*n≤281474976710656 by rw[y6];omega);have ak:=qH (show i3.bytes*n≤281474976710656 by rw[hb3];omega);have HM:=qH (show n≤maxLen by unfold maxLen;omega);clear yi wC za y6 FR hz3 hs3 hb3;have h0:(n:Int)≤4096:=by omega
 have h1:(0:Int)≤(n:Int):=by omega
 go_enter Tryz.func31,Tryz.ntmps31;go_wp2;refine wp_region_held_drew (S:=fun X=>Below w.heap.size w X) (by kernel_rfl) (Below.refl _ _).drew (fun hHeld=>?_);refine tkC 0 ?_;refine tkC 2 ?_;refine rdA (rs:= [1,3]) ?_;refine AllReadyH.cons (o:=⟨some 10,.makeSlice 115 (.tmp 9) (.tmp 9),115,"dev.go:34",#[⟨0,.data⟩,⟨0,.data⟩],none⟩) rfl (fun K hK=>?_) (AllReadyH.cons (o:=⟨some 12,.makeSlice 117 (.tmp 11) (.tmp 11),117,"dev.go:34",#[⟨2,.data⟩,⟨2,.data⟩],none⟩) rfl (fun K hK=>?_) AllReadyH.nil)
 ·refine step_make (by rfl) (.tmp 9) (.tmp 9) 115 (by rfl) 0 121 CT (.agg (Array.replicate 64 (.int .u8 0))) 64 Tryz.underlying115 wS.out xh.out jW.out .i64 .i64 _ _ n (by rfl) (by rfl) rfl rfl wa.out HM.out (Nat.zero_le _) ?_
  intro wF hownF hgrowF;have ac:=hHeld.grown hgrowF (hHeld.size) (fun k hk=>by cases hk);refine hK.out _ _ ?_ (fun _=>?_)
  ·exact ac
  clear hK K hHeld;have hHeld:=ac;clear ac;try simp only[Act.put,zA,zB,zC]
  refine rdA (rs:= [3]) ?_;refine arC (fun K hK=>?_);refine step_make (by rfl) (.tmp 11) (.tmp 11) 117 (by rfl) 0 3 i3 (.int .i64 0) 1 Tryz.underlying117 GM.out Fx.out uW.out .i64 .i64 _ _ n (by rfl) (by rfl) rfl rfl ak.out HM.out (Nat.zero_le _) ?_;intro wN hownN hgrowN;have ac:=hHeld.grown hgrowN (hHeld.size) (fun k hk=>by cases hk);refine hK.out _ _ ?_ (fun _=>?_)
  ·exact ac
  clear hK K hHeld;have hHeld:=ac;clear ac;try simp only[Act.put,zA,zB,zC]
  refine tkC 4 ?_;refine rdA (rs:= [5]) ?_;refine arC (fun K hK=>?_);go_simp;refine gen_alloc ?_;intro w4 hw4 aq;try (go_wp2_with fail)
  have ac:=hHeld.trans (aq.mono hHeld.size);refine hK.out _ _ ?_ (fun _=>?_)
  ·exact ac
  clear hK K hHeld;have hHeld:=ac;clear ac;try simp only[Act.put,zA,zB,zC]
  refine tkC 6 ?_;refine wpAnyH_done (by kernel_rfl) ?_ _;have HH:=qH hHeld;have cm:=qH hownF;have sg:=qH hownN;have AB:=qH hgrowF;have Ad:=qH hgrowN;have eN:=qH hw4;clear hHeld hownF hownN hgrowF hgrowN hw4 aq;go_wp2;go_ret;have hs1:=AB.out.size;have hs2:=Ad.out.size;have l1:w.heap.size<wF.heap.size:=(cm.out.lt _ rfl).2;have l2:wF.heap.size<wN.heap.size:=(sg.out.lt _ rfl).2;have hd:w.drew.heap.size=w.heap.size:=rfl;have e4:w4.heap.size=wN.heap.size+1:=by rw[eN.out];simp
  exact⟨_,rfl,new_mk (w:=w) h (by rw[eN.out];exact(own_grownD cm.out Ad.out).alloc _) (by rw[eN.out];exact sg.out.alloc _) (by rw[eN.out];exact heap_alloc_new wN _) ⟨Nat.le_refl _,by rw[e4];omega⟩ ⟨by omega,by rw[e4];omega⟩ (by omega) (by omega) (by omega) (by omega) (by rw[e4];omega),HH.out⟩
 ·refine step_make (by rfl) (.tmp 11) (.tmp 11) 117 (by rfl) 0 3 i3 (.int .i64 0) 1 Tryz.underlying117 GM.out Fx.out uW.out .i64 .i64 _ _ n (by rfl) (by rfl) rfl rfl ak.out HM.out (Nat.zero_le _) ?_
  intro wN hownN hgrowN;have ac:=hHeld.grown hgrowN (hHeld.size) (fun k hk=>by cases hk);refine hK.out _ _ ?_ (fun _=>?_)
  ·exact ac
  clear hK K hHeld;have hHeld:=ac;clear ac;try simp only[Act.put,zA,zB,zC]
  refine rdA (rs:= [1]) ?_;refine arC (fun K hK=>?_);refine step_make (by rfl) (.tmp 9) (.tmp 9) 115 (by rfl) 0 121 CT (.agg (Array.replicate 64 (.int .u8 0))) 64 Tryz.underlying115 wS.out xh.out jW.out .i64 .i64 _ _ n (by rfl) (by rfl) rfl rfl wa.out HM.out (Nat.zero_le _) ?_;intro wF hownF hgrowF;have ac:=hHeld.grown hgrowF (hHeld.size) (fun k hk=>by cases hk);refine hK.out _ _ ?_ (fun _=>?_)
  ·exact ac
  clear hK K hHeld;have hHeld:=ac;clear ac;try simp only[Act.put,zA,zB,zC]
  refine tkC 4 ?_;refine rdA (rs:= [5]) ?_;refine arC (fun K hK=>?_);go_simp;refine gen_alloc ?_;intro w4 hw4 aq;try (go_wp2_with fail)
  have ac:=hHeld.trans (aq.mono hHeld.size);refine hK.out _ _ ?_ (fun _=>?_)
  ·exact ac
  clear hK K hHeld;have hHeld:=ac;clear ac;try simp only[Act.put,zA,zB,zC]
  refine tkC 6 ?_;refine wpAnyH_done (by kernel_rfl) ?_ _;have HH:=qH hHeld;have cm:=qH hownF;have sg:=qH hownN;have AB:=qH hgrowF;have Ad:=qH hgrowN;have eN:=qH hw4;clear hHeld hownF hownN hgrowF hgrowN hw4 aq;go_wp2;go_ret;have hs1:=AB.out.size;have hs2:=Ad.out.size;have l1:wN.heap.size<wF.heap.size:=(cm.out.lt _ rfl).2;have l2:w.heap.size<wN.heap.size:=(sg.out.lt _ rfl).2;have hd:w.drew.heap.size=w.heap.size:=rfl;have e4:w4.heap.size=wF.heap.size+1:=by rw[eN.out];simp
  exact⟨_,rfl,new_mk (w:=w) h (by rw[eN.out];exact cm.out.alloc _) (by rw[eN.out];exact(own_grownD sg.out AB.out).alloc _) (by rw[eN.out];exact heap_alloc_new wF _) ⟨by omega,by rw[e4];omega⟩ ⟨Nat.le_refl _,by rw[e4];omega⟩ (by omega) (by omega) (by omega) (by omega) (by rw[e4];omega),HH.out⟩
section
variable {A A' D:Nat→Prop} {w w':World} {u v:Value} {l:List UInt8}
theorem RB.lt_{k:Nat}(h:RB w u l)(hl:l≠ [])(hk:u.ownBlock=some k):k<w.heap.size:=by
 obtain⟨a,c,rfl,_,_,h3⟩:=h;rcases h3 with h3|⟨b,off,rfl,hb,_⟩
 ·exact absurd h3 hl
 ·have:b=k:=by simpa [Value.ownBlock] using hk
  omega
def RAd(A:Nat→Prop)(w:World)(u:Value)(l:List UInt8):Prop:=RB w u l∧(l≠ []→∀k,u.ownBlock=some k→¬A k)
theorem RAd.fr(h:RAd A w u l)(hf:Fr D w w')(hD:∀k,D k→A k)(hA:∀k,A' k→A k∨w.heap.size≤k):RAd A' w' u l:=
 ⟨RB.fr h.1 hf (fun hl k hk hd=>h.2 hl k hk (hD k hd)),fun hl k hk ha=>by
  rcases hA k ha with h1|h1
  ·exact h.2 hl k hk h1
  ·have:=RB.lt_ h.1 hl hk;omega⟩
theorem RAd.one(h:RAd A w u l):u.oneCell'=true:=by
 obtain⟨⟨a,c,rfl,_⟩,_⟩:=h;rfl
def RowD(A:Nat→Prop)(w:World)(v:Value)(n:Nat)(xs:List Value):Prop:=
 ∃a c,v= .slice a n c∧n≤c∧c≤maxLen∧(xs= []∨∃b,a=some ⟨b,0,none⟩∧b<w.heap.size∧¬A b∧∀j (h:j<xs.length),w.cell? ⟨b,j,none⟩=some xs[j])
theorem RowD.fr{n:Nat}{xs:List Value}(h:RowD A w v n xs)(hf:Fr D w w')(hD:∀k,D k→A k)(hA:∀k,A' k→A k∨w.heap.size≤k):RowD A' w' v n xs:=by
 obtain⟨a,c,rfl,h1,h2,h3⟩:=h;refine⟨a,c,rfl,h1,h2,?_⟩;rcases h3 with h3|⟨b,rfl,hb,hn,hc⟩
 ·exact .inl h3
 ·exact .inr ⟨b,rfl,Nat.lt_of_lt_of_le hb hf.size,fun ha=>by rcases hA b ha with h4|h4;exact hn h4;omega,fun j hj=>(World.cell?_of_block (a:=⟨b,j,none⟩) (hf.block b hb (fun hd=>hn (hD b hd)))).trans (hc j hj)⟩
theorem RowD.own{base:Nat}{e:TypeId}{size n:Nat}{xs:List Value}(h:w.ownsRow base e size v n xs)(hA:∀k,base≤k→k<w.heap.size→¬A k):RowD A w v n xs:=by
 rcases h.2 with ⟨rfl,h0⟩|⟨g,cap,cur,rfl,hb,hg,hnc,hcm,_⟩
 ·subst h0
  have hl:=h.1;exact⟨none,0,rfl,Nat.le_refl _,Nat.zero_le _,.inl (List.eq_nil_of_length_eq_zero (by simpa using hl))⟩
 ·have hlt:=(h.lt g rfl).2
  refine⟨_,cap,rfl,hnc,hcm,.inr ⟨g,rfl,hlt,hA g hb hlt,fun j hj=>?_⟩⟩;have:=h.cells (g:=g) rfl j xs[j] (List.getElem?_eq_getElem hj);rw[Addr.add_lit] at this
  simpa using this
theorem RowD.src{n size:Nat}{xs:List Value}(h:RowD A w v n xs)(hl:xs.length=n*size)(h0:0<size){tx e':TypeId}(hk:Tryz.prog.underlying tx=some (.slice e'))(h1:∀x∈xs,x.oneCell'=true):Src Tryz.prog size tx v n xs w:=by
 obtain⟨a,c,rfl,_,_,h3⟩:=h;rcases h3 with h3|⟨b,rfl,hb,hn,hc⟩
 ·subst h3
  have hn0:n=0:=by
   rcases Nat.eq_zero_or_pos n with h|h
   ·exact h
   ·have:=Nat.mul_pos h h0;simp at hl;omega
  subst hn0
  cases a with
  |none=>exact Src.ofNil _ hk c
  |some p=>exact Src.ofSlice _ hk p 0 c [] (by simp) (fun j u hj=>by simp at hj) (fun x hx=>by cases hx)
 ·refine Src.ofSlice _ hk ⟨b,0,none⟩ n c xs hl (fun j u hj=>?_) h1
  obtain⟨hj',e⟩:=List.getElem?_eq_some_iff.1 hj;rw[Addr.add_lit,Nat.zero_add,hc j hj',e]
def SRd(A:Nat→Prop)(w:World)(v:Value)(F:List (List UInt8)):Prop:=
 ∃qs:List (List UInt8×Value),qs.map (·.1)=F∧RowD A w v F.length (qs.map (·.2))∧∀q∈qs,RAd A w q.2 q.1
def pcsD(ps:List (Wr×Value)):List Value:=(ps.map fun p=> [iv p.1.1,p.2]).flatten
theorem pcs_length(ps:List (Wr×Value)):(pcsD ps).length=ps.length*2:=by
 have:=flat_length (m:=2) (L:=ps.map fun p=> [iv p.1.1,p.2]) (fun x hx=>by obtain⟨p,_,rfl⟩:=List.mem_map.1 hx;rfl);rw[pcsD,this];simp
theorem pcs_get(ps:List (Wr×Value)){j:Nat}(h:j<ps.length):(pcsD ps)[j*2]? =some (iv ps[j].1.1)∧(pcsD ps)[j*2+1]? =some ps[j].2:=by
 have hall:∀x∈ps.map (fun p=> [iv p.1.1,p.2]),x.length=2:=fun x hx=>by obtain⟨p,_,rfl⟩:=List.mem_map.1 hx;rfl
 have h0:=flat_get hall (i:=j) (j:=0) (by simpa using h) (by decide);have h1:=flat_get hall (i:=j) (j:=1) (by simpa using h) (by decide);rw[Nat.add_zero] at h0;exact⟨by rw[pcsD,h0];simp,by rw[pcsD,h1];simp⟩
theorem pcs_append(ps qs:List (Wr×Value)):pcsD (ps++qs)=pcsD ps++pcsD qs:=by simp[pcsD]
def LRd(A:Nat→Prop)(w:World)(v:Value)(L:List Wr):Prop:=
 ∃ps:List (Wr×Value),ps.map (·.1)=L∧RowD A w v L.length (pcsD ps)∧∀p∈ps,RAd A w p.2 p.1.2
theorem pcs_one{ps:List (Wr×Value)}(h:∀p∈ps,RAd A w p.2 p.1.2):∀x∈pcsD ps,x.oneCell'=true:=by
 intro x hx;obtain⟨y,hy,hx⟩:=List.mem_flatten.1 hx;obtain⟨p,hp,rfl⟩:=List.mem_map.1 hy;rcases List.mem_cons.1 hx with rfl|hx
 ·rfl
 ·simp at hx;subst hx;exact(h p hp).one
theorem SRd.fr{F:List (List UInt8)}(h:SRd A w v F)(hf:Fr D w w')(hD:∀k,D k→A k)(hA:∀k,A' k→A k∨w.heap.size≤k):SRd A' w' v F:=by
 obtain⟨qs,h1,h2,h3⟩:=h;exact⟨qs,h1,h2.fr hf hD hA,fun q hq=>(h3 q hq).fr hf hD hA⟩
theorem LRd.fr{L:List Wr}(h:LRd A w v L)(hf:Fr D w w')(hD:∀k,D k→A k)(hA:∀k,A' k→A k∨w.heap.size≤k):LRd A' w' v L:=by
 obtain⟨qs,h1,h2,h3⟩:=h;exact⟨qs,h1,h2.fr hf hD hA,fun q hq=>(h3 q hq).fr hf hD hA⟩
theorem SRd.shape{F:List (List UInt8)}(h:SRd A w v F):∃a c,v= .slice a F.length c∧F.length≤c:=by
 obtain⟨qs,h1,⟨a,c,h2,h3,_⟩,_⟩:=h;exact⟨a,c,h2,h3⟩
theorem LRd.shape{L:List Wr}(h:LRd A w v L):∃a c,v= .slice a L.length c∧L.length≤c:=by
 obtain⟨qs,h1,⟨a,c,h2,h3,_⟩,_⟩:=h;exact⟨a,c,h2,h3⟩
theorem SRd.at_{F:List (List UInt8)}{a:Option Addr}{c i:Nat}(h:SRd A w (.slice a F.length c) F)(hi:i<F.length):∃b u,a=some ⟨b,0,none⟩∧b<w.heap.size∧¬A b∧w.cell? ⟨b,i,none⟩=some u∧RAd A w u (F.getD i []):=by
 obtain⟨qs,rfl,⟨a',c',he,_,_,h2⟩,h3⟩:=h;injection he with he _ _;subst he;have hq:i<qs.length:=by simpa using hi
 rcases h2 with h2|⟨b,rfl,hb,hn,hc⟩
 ·rw[List.map_eq_nil_iff] at h2;subst h2;simp at hq
 ·refine⟨b,qs[i].2,rfl,hb,hn,by have:=hc i (by simpa using hq);simpa using this,?_⟩
  have:=h3 qs[i] (List.getElem_mem hq)
  simpa [List.getD_eq_getElem?_getD,List.getElem?_map,List.getElem?_eq_getElem hq] using this
theorem LRd.at_{L:List Wr}{a:Option Addr}{c i:Nat}(h:LRd A w (.slice a L.length c) L)(hi:i<L.length):∃b u,a=some ⟨b,0,none⟩∧b<w.heap.size∧¬A b∧w.cell? ⟨b,i*2,none⟩=some (iv (wat L i).1)∧w.cell? ⟨b,i*2+1,none⟩=some u∧RAd A w u (wat L i).2:=by
 obtain⟨ps,rfl,⟨a',c',he,_,_,h2⟩,h3⟩:=h;injection he with he _ _;subst he;have hp:i<ps.length:=by simpa using hi
 have hw:wat (ps.map (·.1)) i=ps[i].1:=by rw[wat_in hi];simp
 rw[hw];have hl:=pcs_length ps;rcases h2 with h2|⟨b,rfl,hb,hn,hc⟩
 ·rw[h2] at hl;have h9:(0:Nat)=ps.length*2:=hl;omega
 ·have hg:=pcs_get ps hp
  refine⟨b,ps[i].2,rfl,hb,hn,?_,?_,h3 ps[i] (List.getElem_mem hp)⟩
  ·rw[hc (i*2) (by rw[hl];omega),←hg.1,List.getElem?_eq_getElem]
  ·rw[hc (i*2+1) (by rw[hl];omega),←hg.2,List.getElem?_eq_getElem]
def TRd(A:Nat→Prop)(w:World)(tv:Value)(s:Sim):Prop:=
 ∃(vS vL:Value) (lf cw cf:Int),tv= .agg #[vS,vL,.int .i64 cw,.int .i64 cf,.bool s.fuse.isSome,.int .i64 lf]∧SRd A w vS s.firm∧LRd A w vL s.loose∧∀k,s.fuse=some k→lf=(k:Int)
theorem TRd.fr{s:Sim}(h:TRd A w v s)(hf:Fr D w w')(hD:∀k,D k→A k)(hA:∀k,A' k→A k∨w.heap.size≤k):TRd A' w' v s:=by
 obtain⟨vS,vL,lf,cw,cf,h1,h2,h3,h4⟩:=h;exact⟨vS,vL,lf,cw,cf,h1,h2.fr hf hD hA,h3.fr hf hD hA,h4⟩
theorem TRd.below{s:Sim}(h:TRd A w v s)(hb:Below w.heap.size w w'):TRd A w' v s:=h.fr (D:=fun _=>False) (Fr.of_below hb) (fun _ h=>h.elim) (fun _ h=> .inl h)
theorem SRd.below{F:List (List UInt8)}(h:SRd A w v F)(hb:Below w.heap.size w w'):SRd A w' v F:=h.fr (D:=fun _=>False) (Fr.of_below hb) (fun _ h=>h.elim) (fun _ h=> .inl h)
theorem LRd.below{L:List Wr}(h:LRd A w v L)(hb:Below w.heap.size w w'):LRd A w' v L:=h.fr (D:=fun _=>False) (Fr.of_below hb) (fun _ h=>h.elim) (fun _ h=> .inl h)
def MadeD(A:Nat→Prop)(w:World)(s:Sim)(e:Ending)(w':World):Prop:=∃tv,e= .returned tv∧TRd A w' tv s∧Below w.heap.size w w'
def MadeD2(A:Nat→Prop)(w:World)(s:Sim)(r:Value)(e:Ending)(w':World):Prop:=∃tv,e= .returned (.tuple #[tv,r])∧TRd A w' tv s∧Below w.heap.size w w'
end
theorem MadeD2.mk{A:Nat→Prop}{w w':World}{s:Sim}{vS vL r:Value}{lf cw cf:Int}{f:Bool}(hS:SRd A w vS s.firm)(hL:LRd A w vL s.loose)(hf:s.fuse.isSome=f)(bV:∀k,s.fuse=some k→lf=(k:Int))(hb:Below w.heap.size w w'):
  MadeD2 A w s r (.returned (.tuple #[.agg #[vS,vL,.int .i64 cw,.int .i64 cf,.bool f,.int .i64 lf],r])) w':=
 ⟨_,rfl,⟨vS,vL,lf,cw,cf,by rw[hf],hS.below hb,hL.below hb,bV⟩,hb⟩
theorem MadeD.mk{A:Nat→Prop}{w w':World}{s:Sim}{vS vL:Value}{lf cw cf:Int}{f:Bool}(hS:SRd A w vS s.firm)(hL:LRd A w vL s.loose)(hf:s.fuse.isSome=f)(bV:∀k,s.fuse=some k→lf=(k:Int))(hb:Below w.heap.size w w'):
  MadeD A w s (.returned (.agg #[vS,vL,.int .i64 cw,.int .i64 cf,.bool f,.int .i64 lf])) w':=
 ⟨_,rfl,⟨vS,vL,lf,cw,cf,by rw[hf],hS.below hb,hL.below hb,bV⟩,hb⟩
theorem info29:(Tryz.prog.info? 29).map (fun i=>(i.zero,i.size))=some (some (.agg #[.slice none 0 0,.slice none 0 0,.int .i64 0,.int .i64 0,.bool false,.int .i64 0]),6):=by kernel_rfl
theorem info125:(Tryz.prog.info? 125).map (fun i=>(i.zero,i.size,i.bytes))=some (some (.agg #[.int .i64 0,.slice none 0 0]),2,32):=by kernel_rfl
theorem fr_six{D:Nat→Prop}{a w:World}(h:Fr D a w){g:Nat}(hg:D g∨a.heap.size≤g)(v0 v1 v2 v3 v4 v5:Value):
  Fr D a ((((((w.setCell ⟨g,0,none⟩ v0).setCell ⟨g,1,none⟩ v1).setCell ⟨g,2,none⟩ v2).setCell ⟨g,3,none⟩ v3).setCell ⟨g,4,none⟩ v4).setCell ⟨g,5,none⟩ v5):=
 (((((h.setCell (p:=⟨g,0,none⟩) hg v0).setCell (p:=⟨g,1,none⟩) hg v1).setCell (p:=⟨g,2,none⟩) hg v2).setCell (p:=⟨g,3,none⟩) hg v3).setCell (p:=⟨g,4,none⟩) hg v4).setCell (p:=⟨g,5,none⟩) hg v5
theorem blk_six{w:World}{g:Nat}{t:TypeId}{z0 z1 z2 z3 z4 z5:Value}(h:Dv.Blk w g t #[z0,z1,z2,z3,z4,z5])(v0 v1 v2 v3 v4 v5:Value):
  Dv.Blk ((((((w.setCell ⟨g,0,none⟩ v0).setCell ⟨g,1,none⟩ v1).setCell ⟨g,2,none⟩ v2).setCell ⟨g,3,none⟩ v3).setCell ⟨g,4,none⟩ v4).setCell ⟨g,5,none⟩ v5) g t #[v0,v1,v2,v3,v4,v5]:=
 (((((h.set_ 0 v0).set_ 1 v1).set_ 2 v2).set_ 3 v3).set_ 4 v4).set_ 5 v5
theorem six38(v0 v1 v2 v3 v4 v5:Value):(Tryz.prog.info? 29).map (·.size)=some (#[v0,v1,v2,v3,v4,v5]:Array Value).size:=by
 cases h:Tryz.prog.info? 29 with
 |none=>have:=info29;rw[h] at this;cases this
 |some i=>
  have:=info29;rw[h] at this;simp only[Option.map_some,Option.some.injEq,Prod.mk.injEq] at this;rw[Option.map_some,this.2];rfl
theorem LRd.nil_(A:Nat→Prop)(w:World):LRd A w (.slice none 0 0) []:=⟨[],rfl,⟨none,0,rfl,Nat.le_refl _,Nat.zero_le _,.inl rfl⟩,fun p hp=>by cases hp⟩
theorem below2(w:World)(a b:Obj):Below w.heap.size w ((w.alloc a).alloc b):=((Below.refl _ _).alloc (Nat.le_refl _) a).alloc (by simp) b
theorem burn_any{A:Nat→Prop}{w:World}{tv:Value}{s:Sim}(h:TRd A w tv s)(hu:∀k,s.fuse=some k→k≤1000):
  Calls Tryz.prog 83 #[tv] w (MadeD2 A w (if s.goes then s.burnt else s) (.bool s.goes)):=by
 obtain⟨vS,vL,lf,cw,cf,rfl,hS,hL,bV⟩:=h;obtain⟨aS,cS,rfl,_⟩:=hS.shape;obtain⟨aL,cL,rfl,_⟩:=hL.shape;have HS:=qH hS;have HL:=qH hL;clear hS hL
 cases hf:s.fuse with
 |none=>
  have e:s.goes=true:=by simp[Sim.goes,hf]
  have e2:s.burnt=s:=by cases s;simp[Sim.burnt] at *;exact hf.symm▸rfl
  rw[e,e2];have HF:=qH hf;clear e e2 bV hf hu;go_enter Tryz.func83,Tryz.ntmps83;go_wp2;have HB:=qH (show s.fuse.isSome=false by rw[HF.out];rfl);exact bodyPost_ret (v:= .tuple #[.agg #[.slice aS s.firm.length cS,.slice aL s.loose.length cL,.int .i64 cw,.int .i64 cf,.bool false,.int .i64 lf],.bool true]) (by simp[results,Tryz.results83,go_sem]) rfl
   ⟨_,rfl,⟨_,_,lf,cw,cf,by rw[HB.out],HS.out.below (below2 w _ _),HL.out.below (below2 w _ _),fun k hk=>by rw[HF.out] at hk;cases hk⟩,below2 w _ _⟩
 |some k=>
  have Bv:=bV k hf;have ez:=hu k hf;subst Bv;have HF:=qH hf;have HB:=qH (show s.fuse.isSome=true by rw[hf];rfl)
  cases k with
  |zero=>
   have e:s.goes=false:=by simp[Sim.goes,hf]
   rw[e];clear e bV hf hu;go_enter Tryz.func83,Tryz.ntmps83;go_wp2;exact bodyPost_ret (v:= .tuple #[.agg #[.slice aS s.firm.length cS,.slice aL s.loose.length cL,.int .i64 cw,.int .i64 cf,.bool true,.int .i64 0],.bool false]) (by simp[results,Tryz.results83,go_sem]) rfl
    ⟨_,rfl,⟨_,_,0,cw,cf,by rw[HB.out],HS.out.below (below2 w _ _),HL.out.below (below2 w _ _),fun k hk=>by rw[HF.out] at hk;injection hk with hk;omega⟩,below2 w _ _⟩
  |succ k=>
   have e:s.goes=true:=by simp[Sim.goes,hf]
   rw[e];have hc:((k+1:Nat):Int)=(k:Int)+1:=by omega
   rw[hc];have hz:((k:Int)+1==0)=false:=by simp;omega
   have dt:(0:Int)≤(k:Int):=by omega
   have hk1:(k:Int)≤1000:=by omega
   have ae:=qH (show s.burnt.fuse.isSome=true by simp[Sim.burnt,hf]);have cJ:=qH (show s.burnt.fuse=some k by simp[Sim.burnt,hf]);clear e bV hf hu hc ez;go_enter Tryz.func83,Tryz.ntmps83;go_wp2;refine bodyPost_ret (v:= .tuple #[.agg #[.slice aS s.firm.length cS,.slice aL s.loose.length cL,.int .i64 cw,.int .i64 cf,.bool true,.int .i64 (k:Int)],.bool true]) (by simp[results,Tryz.results83,go_sem]) rfl ?_;refine MadeD2.mk (s:=s.burnt) (lf:=(k:Int)) HS.out HL.out ae.out (fun j hj=>by rw[cJ.out] at hj;injection hj with hj;omega) ?_
   repeat (first|exact Below.refl _ _|(refine Below.alloc ?_ (by first|(simp;done)|(simp;omega)|(simp[World.setCell];done)|(simp[World.setCell];omega)) _)|(refine Below.setCell ?_ (by first|(simp;done)|(simp;omega)) _))
theorem reffuse_any{A:Nat→Prop}{w:World}{tv:Value}{s:Sim}(n:Int)(h:TRd A w tv s):
  Calls Tryz.prog 18 #[tv,.int .i64 n] w (MadeD A w (s.setFuse n)):=by
 obtain⟨vS,vL,lf,cw,cf,rfl,hS,hL,bV⟩:=h;obtain⟨aS,cS,rfl,_⟩:=hS.shape;obtain⟨aL,cL,rfl,_⟩:=hL.shape;have HS:=qH hS;have HL:=qH hL;clear hS hL
 cases hg:s.goes with
 |false=>
  have hf:s.fuse=some 0:=by simpa [Sim.goes] using hg
  have h0:lf=0:=bV 0 hf;subst h0;have e:s.setFuse n=s:=by simp[Sim.setFuse,hg]
  rw[e];have hb:s.fuse.isSome=true:=by rw[hf];rfl
  rw[hb];have HB:=qH hb;have HF:=qH hf;clear e hb hf bV hg;go_enter Tryz.func18,Tryz.ntmps18;go_wp2;exact bodyPost_ret (v:= .agg #[.slice aS s.firm.length cS,.slice aL s.loose.length cL,.int .i64 cw,.int .i64 cf,.bool true,.int .i64 0]) (by simp[results,Tryz.results18,go_sem]) rfl
   (MadeD.mk HS.out HL.out HB.out (fun k hk=>by rw[HF.out] at hk;injection hk with hk;omega) (below2 w _ _))
 |true=>
  have e:s.setFuse n={s with fuse:=if 0≤n then some n.toNat else none}:=by simp[Sim.setFuse,hg]
  rw[e];have hz:s.fuse.isSome=false∨(s.fuse.isSome=true∧(lf==0)=false):=by
   cases hf:s.fuse with
   |none=>exact .inl rfl
   |some k=>
    refine .inr ⟨rfl,?_⟩;have:=bV k hf
    cases k with
    |zero=>simp[Sim.goes,hf] at hg
    |succ k=>simp;omega
  clear e hg bV;have fin:∀(f:Bool) (x:Int),((if 0≤n then some n.toNat else none:Option Nat).isSome=f)→(∀k,(if 0≤n then some n.toNat else none:Option Nat)=some k→x=(k:Int))→∀w',Below w.heap.size w w'→MadeD A w {s with fuse:=if 0≤n then some n.toNat else none} (.returned (.agg #[.slice aS s.firm.length cS,.slice aL s.loose.length cL,.int .i64 cw,.int .i64 cf,.bool f,.int .i64 x])) w':=
   fun f x hf hx w' hb=>MadeD.mk (s:={s with fuse:=if 0≤n then some n.toNat else none}) HS.out HL.out hf hx hb
  obtain⟨S2,Fi⟩:∃S2:Sim,S2={s with fuse:=if 0≤n then some n.toNat else none}:=⟨_,rfl⟩
  rw[←Fi] at fin⊢;have Gz:=qH fin;clear fin Fi;by_cases h0:0≤n
  ·have H0:=qH h0
   have h1:decide (0≤n)=true:=by simpa using h0
   have h2:¬n<0:=by omega
   rcases hz with hz|⟨hz,hz2⟩
   all_goals
    rw[hz];clear hz;go_enter Tryz.func18,Tryz.ntmps18;go_wp2;refine bodyPost_ret (v:= .agg #[.slice aS s.firm.length cS,.slice aL s.loose.length cL,.int .i64 cw,.int .i64 cf,.bool true,.int .i64 n]) (by simp[results,Tryz.results18,go_sem]) rfl ?_;refine Gz.out true n (by rw[if_pos H0.out];rfl) (fun k hk=>by rw[if_pos H0.out] at hk;injection hk with hk;omega) _ ?_
    repeat (first|exact Below.refl _ _|(refine Below.alloc ?_ (by first|(simp;done)|(simp;omega)) _)|(refine Below.setCell ?_ (by first|(simp;done)|(simp;omega)) _))
  ·have H0:=qH h0
   have h1:decide (0≤n)=false:=by simpa using h0
   have h2:n<0:=by omega
   rcases hz with hz|⟨hz,hz2⟩
   all_goals
    rw[hz];clear hz;go_enter Tryz.func18,Tryz.ntmps18;go_wp2;refine bodyPost_ret (v:= .agg #[.slice aS s.firm.length cS,.slice aL s.loose.length cL,.int .i64 cw,.int .i64 cf,.bool false,.int .i64 0]) (by simp[results,Tryz.results18,go_sem]) rfl ?_;refine Gz.out false 0 (by rw[if_neg (show ¬0≤n by have:=H0.out;omega)];rfl) (fun k hk=>by rw[if_neg (show ¬0≤n by have:=H0.out;omega)] at hk;cases hk) _ ?_
    repeat (first|exact Below.refl _ _|(refine Below.alloc ?_ (by first|(simp;done)|(simp;omega)) _)|(refine Below.setCell ?_ (by first|(simp;done)|(simp;omega)) _))
def fillP(b:List UInt8)(k:Nat):List UInt8:=b.take k++List.replicate (64-k) 0
theorem fillP_length{b:List UInt8}{k:Nat}(h:k≤b.length)(h2:b.length≤64):(fillP b k).length=64:=by simp[fillP];omega
theorem fillP_zero(b:List UInt8):fillP b 0=List.replicate 64 0:=by simp[fillP]
theorem fillP_all(b:List UInt8):fillP b b.length=pad b:=by simp[fillP,pad]
theorem fillP_set{b:List UInt8}{k:Nat}(h:k<b.length)(h2:b.length≤64):(bvs (fillP b k)).set k (bv b[k])=bvs (fillP b (k+1)):=by
 have e:(fillP b k).set k b[k]=fillP b (k+1):=by
  unfold fillP;have hk:(b.take k).length=k:=by simp;omega
  rw[show 64-k=(64-(k+1))+1 from by omega,List.replicate_succ,List.set_append,if_neg (by omega),hk,Nat.sub_self,List.set_cons_zero,List.take_succ_eq_append_getElem h,List.append_assoc];rfl
 rw[←e];simp[bvs,List.map_set]
theorem refwrite_no{A:Nat→Prop}{w:World}{tv bvv:Value}{s:Sim}(i:Int)(b:List UInt8)(h:TRd A w tv s)(hb:RB w bvv b)(hh:s.has i=false∨(s.has i=true∧64<b.length)):
  Calls Tryz.prog 80 #[tv,.int .i64 i,bvv] w (MadeD2 A w (s.write i b) (.int .i64 (s.wrote i b))):=by
 obtain⟨vS,vL,lf,cw,cf,rfl,hS,hL,bV⟩:=h;obtain⟨aS,cS,rfl,AR⟩:=hS.shape;obtain⟨aL,cL,rfl,_⟩:=hL.shape;obtain⟨aB,cB,rfl,_,hcB,_⟩:=hb;unfold maxLen at hcB;have HS:=qH hS;have HL:=qH hL;have s6:=qH bV;clear hS hL bV;obtain⟨f0,ii⟩:∃f0,f0=s.fuse.isSome:=⟨_,rfl⟩
 rw[←ii];have HF:=qH ii.symm;clear ii;obtain⟨m,hm⟩:∃m,m=b.length:=⟨_,rfl⟩
 rcases hh with hh|⟨hh,hl⟩
 ·have e1:s.write i b=s:=by simp[Sim.write,hh]
  have e2:s.wrote i b=20:=by simp[Sim.wrote,hh]
  rw[e1,e2,←hm];have eD:(decide (i<0)=true)∨(decide (i<0)=false∧(s.firm.length:Int)≤i):=by
   by_cases h1:i<0
   ·exact .inl (by simpa using h1)
   ·refine .inr ⟨by simpa using h1,?_⟩
    rcases Int.lt_or_le i s.firm.length with h|h
    ·have:=Sim.has_iff.2 ⟨show 0≤i by omega,h⟩
     rw[hh] at this;cases this
    ·exact h
  clear e1 e2 hh hm;rcases eD with h1|⟨h1,h2⟩
  all_goals
   go_enter Tryz.func80,Tryz.ntmps80;go_wp2;exact bodyPost_ret (v:= .tuple #[.agg #[.slice aS s.firm.length cS,.slice aL s.loose.length cL,.int .i64 cw,.int .i64 cf,.bool f0,.int .i64 lf],.int .i64 20]) (by simp[results,Tryz.results80,go_sem]) rfl
    (MadeD2.mk HS.out HL.out HF.out s6.out (below2 w _ _))
 ·have e1:s.write i b=s:=by simp[Sim.write];omega
  have e2:s.wrote i b=3:=by simp[Sim.wrote,hh,hl]
  rw[e1,e2,←hm];have hi:=Sim.has_iff.1 hh;have h1:decide (i<0)=false:=by simp;omega
  have h2:¬(s.firm.length:Int)≤i:=by omega
  have h3:64<(m:Int):=by omega
  clear e1 e2 hh hm hl hi;go_enter Tryz.func80,Tryz.ntmps80;go_wp2;exact bodyPost_ret (v:= .tuple #[.agg #[.slice aS s.firm.length cS,.slice aL s.loose.length cL,.int .i64 cw,.int .i64 cf,.bool f0,.int .i64 lf],.int .i64 3]) (by simp[results,Tryz.results80,go_sem]) rfl
   (MadeD2.mk HS.out HL.out HF.out s6.out (below2 w _ _))
theorem refwrite_yes{A:Nat→Prop}{w:World}{tv bvv:Value}{s:Sim}(i:Nat)(b:List UInt8)(h:TRd A w tv s)(hok:OK s)(hA:∀k,A k→k<w.heap.size)(lH:s.loose.length<100000)(hb:RB w bvv b)(hi:i<s.firm.length)(hl:b.length≤64):
  Calls Tryz.prog 80 #[tv,.int .i64 (i:Int),bvv] w (MadeD2 A w (s.write i b) (.int .i64 0)):=by
 have HT:=qH h;have j1:=qH hb;obtain⟨vS,vL,lf,cw,cf,rfl,hS,hL,bV⟩:=h;obtain⟨aS,cS,rfl,AR⟩:=hS.shape;obtain⟨aL,cL,rfl,_⟩:=hL.shape;obtain⟨aB,cB,rfl,Bt,hcB,FQ⟩:=hb;unfold maxLen at hcB;have HO:=qH hok;have HA:=qH hA;obtain⟨m,hm⟩:∃m,m=b.length:=⟨_,rfl⟩
 rw[←hm] at Bt hl j1⊢;have HM:=qH hm;have ak:=qH FQ;have hh:s.has i=true:=Sim.has_iff.2 ⟨by omega,by omega⟩;have HH:=qH hh;clear hS hL bV hok hA hm FQ hh;obtain⟨f0,ii⟩:∃f0,f0=s.fuse.isSome:=⟨_,rfl⟩
 rw[←ii] at HT⊢;clear ii;have h1:decide ((i:Int)<0)=false:=by simp
 have h2:¬(s.firm.length:Int)≤(i:Int):=by omega
 have h3:(m:Int)≤64:=by omega
 go_enter Tryz.func80,Tryz.ntmps80;go_wp2_with fail
 go_at_call 83;refine(burn_any (A:=fun k=>A k∨k=w.heap.size∨k=w.heap.size+1) ((HT.out.fr (D:=fun _=>False) (Fr.of_below (below2 w _ _)) (fun _ h=>h.elim) (fun k hk=>by
  rcases hk with hk|hk|hk
  ·exact .inl hk
  ·exact .inr (by omega)
  ·exact .inr (by omega)))) HO.out.u).mono ?_
 rintro e w1⟨Bj,rfl,ht,hb⟩;obtain⟨W1,hW1⟩:∃W1,W1=((w.alloc (Obj.cells #[Value.slice aS s.firm.length cS,Value.slice aL s.loose.length cL,Value.int IntKind.i64 cw,Value.int IntKind.i64 cf,Value.bool f0,Value.int IntKind.i64 lf] 29)).alloc (Obj.cells #[Value.slice none 0 0,Value.slice none 0 0,Value.int IntKind.i64 0,Value.int IntKind.i64 0,Value.bool false,Value.int IntKind.i64 0] 29)):=⟨_,rfl⟩
 rw[←hW1] at hb;have hb2:Dv.Blk W1 (w.heap.size+1) 29 #[Value.slice none 0 0,Value.slice none 0 0,Value.int IntKind.i64 0,Value.int IntKind.i64 0,Value.bool false,Value.int IntKind.i64 0]:=by rw[hW1];exact heap_alloc2_new w _ _
 have hs1:W1.heap.size=w.heap.size+1+1:=by rw[hW1];simp
 have aj:Below w.heap.size w w1:=by
  have:Below w.heap.size w W1:=by rw[hW1];exact below2 w _ _
  exact this.trans (hb.mono (by omega))
 obtain⟨g2,hg2⟩:∃g2,g2=w.heap.size:=⟨_,rfl⟩
 rw[←hg2] at hb2 hs1 ht⊢;have hs2:g2+1+1≤w1.heap.size:=by have:=hb.size;omega
 have ae:=qH (hb2.below hb (by omega));have aw:=qH aj;have HG2:=qH hg2;have fE:=qH hs2;clear hW1 hb hb2 hs1 aj hg2 hs2
 cases hg:s.goes with
 |false=>
  rw[hg] at ht;have e:s.write i b=s:=by simp[Sim.write,hg]
  obtain⟨DD,CM,lf1,dP,dX,rfl,hS1,lM,io⟩:=id ht;obtain⟨dM,dH,rfl,_⟩:=hS1.shape;obtain⟨eJ,eI,rfl,_⟩:=lM.shape;have d0:w1.cell? ⟨g2+1,0,none⟩=some (.slice none 0 0):=ae.out.cell 0;have d1:w1.cell? ⟨g2+1,1,none⟩=some (.slice none 0 0):=ae.out.cell 1;have d2:w1.cell? ⟨g2+1,2,none⟩=some (.int .i64 0):=ae.out.cell 2;have d3:w1.cell? ⟨g2+1,3,none⟩=some (.int .i64 0):=ae.out.cell 3;have d4:w1.cell? ⟨g2+1,4,none⟩=some (.bool false):=ae.out.cell 4;have d5:w1.cell? ⟨g2+1,5,none⟩=some (.int .i64 0):=ae.out.cell 5;have df:∀i,w1.frozen? ⟨g2+1,i,none⟩=false:=ae.out.frozen;have hlt:=ae.out.lt;have km:=qH ht;have HE:=qH e;clear ht hg e hS1 lM io;obtain⟨f1,eo⟩:∃f1,f1=s.fuse.isSome:=⟨_,rfl⟩
  simp only[Bool.false_eq_true,if_false] at km⊢;rw[←eo] at km⊢;clear eo;go_wp2;have hblk:=(blk_six ae.out (.slice dM s.firm.length dH) (.slice eJ s.loose.length eI) (.int .i64 dP) (.int .i64 dX) (.bool f1) (.int .i64 lf1)).alloc (Obj.cells #[Value.slice dM s.firm.length dH,Value.slice eJ s.loose.length eI,Value.int IntKind.i64 dP,Value.int IntKind.i64 dX,Value.bool f1,Value.int IntKind.i64 lf1] 29);have ay:=(fr_six (Fr.refl (fun k=>k=g2+1) w1) (.inl rfl) (.slice dM s.firm.length dH) (.slice eJ s.loose.length eI) (.int .i64 dP) (.int .i64 dX) (.bool f1) (.int .i64 lf1)).alloc (Obj.cells #[Value.slice dM s.firm.length dH,Value.slice eJ s.loose.length eI,Value.int IntKind.i64 dP,Value.int IntKind.i64 dX,Value.bool f1,Value.int IntKind.i64 lf1] 29);refine bodyPost_ret (v:= .tuple #[.agg #[.slice dM s.firm.length dH,.slice eJ s.loose.length eI,.int .i64 dP,.int .i64 dX,.bool f1,.int .i64 lf1],.int .i64 0]) (by
   simp[results,Tryz.results80,go_sem,hblk.cell 0,hblk.cell 1,hblk.cell 2,hblk.cell 3,hblk.cell 4,hblk.cell 5]) rfl ?_
  rw[HE.out];exact⟨_,rfl,km.out.fr ay (fun k hk=> .inr (.inr hk)) (fun k hk=> .inl (.inl hk)),aw.out.trans (ay.below (fun k hk=>by have:=HG2.out;omega) aw.out.size)⟩
 |true=>
  rw[hg] at ht;have e:s.write i b=s.put i b:=by
   unfold Sim.write;rw[HH.out,hg,←HM.out,decide_eq_true hl];rfl
  have ht1:TRd (fun k=>A k∨k=g2∨k=g2+1) w1 Bj s.burnt:=ht;obtain⟨DD,CM,lf1,dP,dX,rfl,hS1,lM,io⟩:=id ht1;obtain⟨dM,dH,rfl,_⟩:=hS1.shape;obtain⟨eJ,eI,rfl,_⟩:=lM.shape;have jo:=qH (show SRd (fun k=>A k∨k=g2∨k=g2+1) w1 (.slice dM s.firm.length dH) s.firm from hS1);have GY:=qH (show LRd (fun k=>A k∨k=g2∨k=g2+1) w1 (.slice eJ s.loose.length eI) s.loose from lM);have HE:=qH e;have s6:=qH io;have e1:s.burnt.firm.length=s.firm.length:=rfl;have e2:s.burnt.loose.length=s.loose.length:=rfl;obtain⟨f1,eo⟩:∃f1,f1=s.burnt.fuse.isSome:=⟨_,rfl⟩
  rw[e1,e2,←eo];have sE:=qH eo;have Gf:s.loose.length≤100000:=Nat.le_of_lt lH;clear ht ht1 hg e hS1 lM io eo e1 e2;obtain⟨i5,hi5,jv,hs5,au⟩:=info_parts info5;have kS:=qH hi5;have lA:=qH jv;have iF:=qH hs5;have ax:=qH (show i5.bytes*64≤281474976710656 by rw[au];omega);have AH:=qH (show 64≤maxLen by unfold maxLen;omega);clear hi5 jv hs5 au;go_wp2_with (refine wpList_make_full _ rfl (.const (.int .i64 64)) (.const (.int .i64 64)) 46 rfl 0 5 i5 (.int .u8 0) 1 Tryz.underlying46 kS.out lA.out iF.out .i64 .i64 _ _ 64 rfl rfl rfl rfl ax.out AH.out (Nat.zero_le _) ?_)
  intro w4 hownx hgrow;obtain⟨g3,hg3⟩:∃g3,g3=w1.heap.size:=⟨_,rfl⟩
  rw[←hg3] at hownx⊢;have hx0:(madeCells #[Value.int .u8 0] 64).toList=bvs (fillP b 0):=by
   rw[toList_madeCells_one,fillP_zero];simp[bvs,bv]
  rw[hx0] at hownx;have hb3:Dv.Blk w4 g3 29 #[Value.slice dM s.firm.length dH,Value.slice eJ s.loose.length eI,Value.int IntKind.i64 dP,Value.int IntKind.i64 dX,Value.bool f1,Value.int IntKind.i64 lf1]:=by
   have h9:Dv.Blk (w1.alloc (Obj.cells #[Value.slice dM s.firm.length dH,Value.slice eJ s.loose.length eI,Value.int IntKind.i64 dP,Value.int IntKind.i64 dX,Value.bool f1,Value.int IntKind.i64 lf1] 29)) g3 29 #[Value.slice dM s.firm.length dH,Value.slice eJ s.loose.length eI,Value.int IntKind.i64 dP,Value.int IntKind.i64 dX,Value.bool f1,Value.int IntKind.i64 lf1]:=by rw[hg3];exact heap_alloc_new w1 _
   exact h9.same (hgrow.block g3 h9.lt (by simp))
  have nb:Below w1.heap.size w1 w4:=((Below.refl _ _).alloc (Nat.le_refl _) _).grown hgrow (by simp) (fun k hk=>by cases hk);have hgx:=(hownx.lt (g3+1) rfl).2;have CG:=qH hb3;have xD:=qH nb;have mb:=qH hg3;have Jv:=qH hownx;have IW:=qH hgx;clear hownx hgrow hx0 hb3 nb hg3 hgx;go_wp2
  go_loopw [11] (fun q wr=>∃k:Nat,k≤m∧q= .int .i64 k∧wr.ownsRow 0 5 1 (.slice (some ⟨g3+1,0,none⟩) 64 64) 64 (bvs (fillP b k))∧Below (g3+1) w4 wr) (fun q _=>m-(intOf q).toNat)
  case atStart=>exact⟨0,Nat.zero_le _,rfl,Jv.out,Below.refl _ _⟩
  case round=>
   obtain⟨k,hk,rfl,hown,ad⟩:=hrel;by_cases hlt:k<m
   ·have og:k<b.length:=by rw[←HM.out];exact hlt
    obtain⟨bb,off,hA,hbb,hc⟩:∃bb off,aB=some ⟨bb,off,none⟩∧bb<w.heap.size∧∀j (h:j<b.length),w.cell? ⟨bb,off+j,none⟩=some (bv b[j]):=by
     rcases ak.out with h9|⟨bb,off,h4,h5,h6⟩
     ·rw[h9] at og;simp at og
     ·exact⟨bb,off,h4,h5,h6⟩
    subst hA;have cj:=hc k og;have hbr:Below w.heap.size w wr:=(aw.out.trans (xD.out.mono aw.out.size)).trans (ad.mono (by have:=HG2.out;have:=mb.out;have:=fE.out;omega));have hcr:=(hbr.cell (p:=⟨bb,off+k,none⟩) hbb).trans cj;have dm:=fillP_length (b:=b) (k:=k) (by omega) (by rw[←HM.out];exact hl);have D6:=hown.cellAt k (by omega);rw[List.getElem?_eq_getElem (show k<(bvs (fillP b k)).length by rw[bvs_length,dm];omega)] at D6;obtain⟨y,hy⟩:∃y,wr.cell? ⟨g3+1,k,none⟩=some y:=⟨_,D6⟩
    have KR:=hown.frozenAt k;have bQ:=fillP_set og (by rw[←HM.out];exact hl);unfold bv at hcr;generalize b[k]=z at hcr bQ;have gh:=qH bQ;have x8:=qH hown;have tt:=qH ad;have dt:(0:Int)≤(k:Int):=by omega
    have hk1:(k:Int)<(m:Int):=by omega
    have hk2:(k:Int)<64:=by omega
    clear hown ad hc cj hbr D6 bQ og dm;go_wp2;go_roundw
    case rel=>
     refine⟨k+1,by omega,by go_num,?_,tt.out.setCell (p:=⟨g3+1,k,none⟩) (Nat.le_refl _) _⟩;have h9:=(x8.out.stored k (bv z)).1;rw[gh.out] at h9;exact h9
    case measure=>simp[intOf];omega
   ·obtain rfl:k=m:=by omega
    have hbr:Below w1.heap.size w1 wr:=xD.out.trans (ad.mono (by have:=mb.out;omega));have hL2:=GY.out.fr (D:=fun _=>False) (A':=fun k=>(A k∨k=g2∨k=g2+1)∨k=g3) (Fr.of_below hbr) (fun _ h=>h.elim) (fun k hk=>by
     rcases hk with hk|hk
     ·exact .inl hk
     ·exact .inr (by have:=mb.out;omega))
    obtain⟨ps,hp1,hp2,Ch⟩:=hL2;have hsrc:=hp2.src (tx:=27) (e':=125) (size:=2) (by rw[pcs_length];rw[←hp1];simp) (by decide) Tryz.underlying27 (pcs_one Ch);have IR:=qH hp1;have AC:=qH Ch;have cD:=qH hsrc;have jL:=qH hbr;have x8:=qH hown;have fc:=qH (CG.out.below ad (by omega));have bW:=qH (ae.out.below hbr (by have:=fE.out;omega));have hc1:wr.cell? ⟨g3,1,none⟩=some (.slice eJ s.loose.length eI):=fc.out.cell 1;have ig:=qH (show g3+1<wr.heap.size by have:=ad.size;have:=IW.out;omega);clear hown ad hbr hp1 hp2 Ch hsrc;go_wp2_with (at_builtin;refine wpList_own rfl (.tmp 49) (.tmp 51) 27 27 rfl wr.heap.size 125 (.agg #[.int .i64 0,.slice none 0 0]) 2 32 Tryz.underlying27 info125 rfl rfl (World.ownsRow_nil _ _ _ _) rfl cD.out (Below.refl wr.heap.size _) (Nat.le_refl _) (by unfold maxLen;omega) (by omega) (Nat.le_refl _) ?_)
    intro vl w5 hownl aH _;have dK:=qH hownl;have jf:=qH aH;clear hc1 hownl aH;go_wp2_with (at_builtin;refine wpList_own rfl (.tmp 53) (.tmp 57) 27 27 rfl wr.heap.size 125 (.agg #[.int .i64 0,.slice none 0 0]) 2 32 Tryz.underlying27 info125 rfl rfl (dK.out.alloc _) rfl (src_two w5 rfl Tryz.underlying27 125 _ _ rfl rfl) (jf.out.alloc jf.out.size _) (Nat.le_refl _) (by unfold maxLen;omega) (by omega) (by have:=jf.out.size;simp;omega) ?_)
    intro v6 w6 bI bX _;obtain⟨a6,c6,rfl,_⟩:=own_shape bI;have jZ:=qH bI;have t8:=qH bX;have kK:=qH (fc.out.below bX fc.out.lt);have jS:=qH (bW.out.below bX bW.out.lt);have c0:w6.cell? ⟨g3,0,none⟩=some (.slice dM s.firm.length dH):=kK.out.cell 0;have c1:w6.cell? ⟨g3,1,none⟩=some (.slice eJ s.loose.length eI):=kK.out.cell 1;have c2:w6.cell? ⟨g3,2,none⟩=some (.int .i64 dP):=kK.out.cell 2;have c3:w6.cell? ⟨g3,3,none⟩=some (.int .i64 dX):=kK.out.cell 3;have c4:w6.cell? ⟨g3,4,none⟩=some (.bool f1):=kK.out.cell 4;have c5:w6.cell? ⟨g3,5,none⟩=some (.int .i64 lf1):=kK.out.cell 5;have cf:∀i,w6.frozen? ⟨g3,i,none⟩=false:=kK.out.frozen;have d0:w6.cell? ⟨g2+1,0,none⟩=some (.slice none 0 0):=jS.out.cell 0;have d1:w6.cell? ⟨g2+1,1,none⟩=some (.slice none 0 0):=jS.out.cell 1;have d2:w6.cell? ⟨g2+1,2,none⟩=some (.int .i64 0):=jS.out.cell 2;have d3:w6.cell? ⟨g2+1,3,none⟩=some (.int .i64 0):=jS.out.cell 3;have d4:w6.cell? ⟨g2+1,4,none⟩=some (.bool false):=jS.out.cell 4;have d5:w6.cell? ⟨g2+1,5,none⟩=some (.int .i64 0):=jS.out.cell 5;have df:∀i,w6.frozen? ⟨g2+1,i,none⟩=false:=jS.out.frozen;have n1:g3≠g2+1:=by have:=mb.out;have:=fE.out;omega
    clear bI bX;go_wp2;obtain⟨W,hW⟩:∃W,W=((((((((w6.setCell ⟨g3,1,none⟩ (Value.slice a6 (s.loose.length+1) c6)).setCell ⟨g3,2,none⟩ (Value.int IntKind.i64 (wrap64 (dP+1)))).setCell ⟨g2+1,0,none⟩ (Value.slice dM s.firm.length dH)).setCell ⟨g2+1,1,none⟩ (Value.slice a6 (s.loose.length+1) c6)).setCell ⟨g2+1,2,none⟩ (Value.int IntKind.i64 (wrap64 (dP+1)))).setCell ⟨g2+1,3,none⟩ (Value.int IntKind.i64 dX)).setCell ⟨g2+1,4,none⟩ (Value.bool f1)).setCell ⟨g2+1,5,none⟩ (Value.int IntKind.i64 lf1)):=⟨_,rfl⟩
    rw[←hW];have hblk:Dv.Blk W (g2+1) 29 #[.slice dM s.firm.length dH,.slice a6 (s.loose.length+1) c6,.int .i64 (wrap64 (dP+1)),.int .i64 dX,.bool f1,.int .i64 lf1]:=by
     rw[hW];exact blk_six ((jS.out.far (p:=⟨g3,1,none⟩) (fun e=>n1 e.symm) _).far (p:=⟨g3,2,none⟩) (fun e=>n1 e.symm) _) _ _ _ _ _ _
    refine bodyPost_ret (v:= .tuple #[.agg #[.slice dM s.firm.length dH,.slice a6 (s.loose.length+1) c6,.int .i64 (wrap64 (dP+1)),.int .i64 dX,.bool f1,.int .i64 lf1],.int .i64 0]) (by
     have e0:W.cell? ⟨g2+1,0,none⟩=some (.slice dM s.firm.length dH):=hblk.cell 0;have e1:W.cell? ⟨g2+1,1,none⟩=some (.slice a6 (s.loose.length+1) c6):=hblk.cell 1;have e2:W.cell? ⟨g2+1,2,none⟩=some (.int .i64 (wrap64 (dP+1))):=hblk.cell 2;have e3:W.cell? ⟨g2+1,3,none⟩=some (.int .i64 dX):=hblk.cell 3;have e4:W.cell? ⟨g2+1,4,none⟩=some (.bool f1):=hblk.cell 4;have e5:W.cell? ⟨g2+1,5,none⟩=some (.int .i64 lf1):=hblk.cell 5;simp[results,Tryz.results80,go_sem,e0,e1,e2,e3,e4,e5]) rfl ?_
    rw[HE.out];have q1:=HG2.out;have q2:=mb.out;have q3:=fE.out;have q4:=ig.out;have ay:∀(D:Nat→Prop) (a:World),Fr D a w6→(D g3∨a.heap.size≤g3)→(D (g2+1)∨a.heap.size≤g2+1)→Fr D a W:=by
     intro D a h0 h1 h2;rw[hW];exact fr_six ((h0.setCell (p:=⟨g3,1,none⟩) h1 _).setCell (p:=⟨g3,2,none⟩) h1 _) h2 _ _ _ _ _ _
    have Dg:Below w1.heap.size w1 w6:=jL.out.trans (t8.out.mono jL.out.size);have tJ:Fr (fun k=>k=g2+1) w1 W:=ay _ _ (Fr.of_below Dg) (.inr (by omega)) (.inl rfl);have I0:Fr (fun k=>k=g3∨k=g2+1) wr W:=ay _ _ (Fr.of_below t8.out) (.inl (.inl rfl)) (.inl (.inr rfl));have qZ:Fr (fun k=>k=g3∨k=g2+1) w6 W:=ay _ _ (Fr.refl _ _) (.inl (.inl rfl)) (.inl (.inr rfl));have hbW:Below w.heap.size w W:=aw.out.trans (tJ.below (fun k hk=>by omega) aw.out.size);have qa:=jo.out.fr (A':=A) tJ (fun k hk=> .inr (.inr hk)) (fun k hk=> .inl (.inl hk));have hrow:W.ownsRow wr.heap.size 125 2 (.slice a6 (s.loose.length+1) c6) (s.loose.length+1) (pcsD ps++ [.int .i64 (i:Int),.slice (some ⟨g3+1,0,none⟩) 64 64]):=
     own_same jZ.out (fun k hk=>by
      have h9:=jZ.out.lt k hk;exact qZ.block k h9.2 (fun hd=>by rcases hd with hd|hd <;>omega))
    have qE:=own_below x8.out t8.out;have Jz:W.ownsRow 0 5 1 (.slice (some ⟨g3+1,0,none⟩) 64 64) 64 (bvs (pad b)):=by
     have e:fillP b k=pad b:=by rw[HM.out];exact fillP_all b
     rw[e] at qE;exact own_same qE (fun j hj=>by
      have h9:=qE.lt j hj;have h8:g3+1=j:=by simpa [Value.ownBlock] using hj
      exact qZ.block j h9.2 (fun hd=>by rcases hd with hd|hd <;>omega))
    have hpl:(pad b).length=64:=pad_length (by rw[←HM.out];exact hl);have Jr:RAd A W (.slice (some ⟨g3+1,0,none⟩) 64 64) (pad b):=by
     refine⟨RB.own (base:=0) (e:=5) (by rw[hpl];exact Jz),fun _ j hj ha=>?_⟩;have h8:g3+1=j:=by simpa [Value.ownBlock] using hj
     have:=HA.out _ ha;omega
    refine⟨_,rfl,⟨.slice dM s.firm.length dH,.slice a6 (s.loose.length+1) c6,lf1,wrap64 (dP+1),dX,?_,qa,?_,s6.out⟩,hbW⟩
    ·rw[sE.out]
     rfl
    ·refine⟨ps++ [((i,pad b),.slice (some ⟨g3+1,0,none⟩) 64 64)],?_,?_,fun q hq=>?_⟩
     ·rw[List.map_append,IR.out]
      rfl
     ·have e9:(s.put i b).loose.length=s.loose.length+1:=by simp[Sim.put]
      rw[pcs_append,e9];exact RowD.own (A:=A) hrow (fun k hk _ ha=>by have:=HA.out k ha;omega)
     ·rcases List.mem_append.1 hq with hq|hq
      ·exact(AC.out q hq).fr I0 (fun k hk=>by rcases hk with hk|hk;exact .inr hk;exact .inl (.inr (.inr hk))) (fun k hk=> .inl (.inl (.inl hk)))
      ·simp at hq
       subst hq;exact Jr
theorem refwrite_any{A:Nat→Prop}{w:World}{tv bvv:Value}{s:Sim}(i:Int)(b:List UInt8)(h:TRd A w tv s)(hok:OK s)(hA:∀k,A k→k<w.heap.size)(lH:s.loose.length<100000)(hb:RB w bvv b):
  Calls Tryz.prog 80 #[tv,.int .i64 i,bvv] w (MadeD2 A w (s.write i b) (.int .i64 (s.wrote i b))):=by
 cases hh:s.has i with
 |false=>exact refwrite_no i b h hb (.inl hh)
 |true=>
  by_cases hl:b.length≤64
  ·have hi:=Sim.has_iff.1 hh
   obtain⟨k,rfl⟩:∃k:Nat,i=(k:Int):=⟨i.toNat,by omega⟩
   have e:s.wrote k b=0:=by unfold Sim.wrote;rw[hh,if_pos rfl,if_neg (by omega)]
   rw[e];exact refwrite_yes k b h hok hA lH hb (by omega) hl
  ·exact refwrite_no i b h hb (.inr ⟨hh,by omega⟩)
abbrev KW(w:World)(v:Value)(K:List Bool):Prop:=KB (fun _=>False) w v K
theorem KB.at_{D:Nat→Prop}{w:World}{AK:Option Addr}{cK nK k:Nat}{K:List Bool}(h:KB D w (.slice AK nK cK) K)(hn:nK=K.length):
  (K.getD k false=false∧(¬k<nK∨(k<nK∧∃b off,AK=some ⟨b,off,none⟩∧b<w.heap.size∧w.cell? ⟨b,off+k,none⟩=some (.bool false))))∨
  (K.getD k false=true∧k<nK∧∃b off,AK=some ⟨b,off,none⟩∧b<w.heap.size∧w.cell? ⟨b,off+k,none⟩=some (.bool true)):=by
 subst hn;obtain⟨A',c',he,h1⟩:=h;injection he with he _ _;by_cases hkn:k<K.length
 ·have e:K.getD k false=K[k]:=by rw[List.getD_eq_getElem?_getD,List.getElem?_eq_getElem hkn];rfl
  rcases h1 with h1|⟨b,off,h1,hb,_,hc⟩
  ·rw[h1] at hkn;simp at hkn
  ·have cj:=hc k hkn
   cases hv:K[k] with
   |false=>rw[hv] at cj;exact .inl ⟨by rw[e,hv],.inr ⟨hkn,b,off,by rw[he,h1],hb,cj⟩⟩
   |true=>rw[hv] at cj;exact .inr ⟨by rw[e,hv],hkn,b,off,by rw[he,h1],hb,cj⟩
 ·exact .inl ⟨by rw[List.getD_eq_getElem?_getD,List.getElem?_eq_none (by omega)];rfl,.inl hkn⟩
def Und(A:Nat→Prop)(w:World)(B:Nat)(wr:World)(v:Value)(F:List (List UInt8)):Prop:=
 ∃qs:List (List UInt8×Value),qs.map (·.1)=F∧wr.ownsRow B 46 1 v F.length (qs.map (·.2))∧∀q∈qs,RAd A w q.2 q.1
theorem Und.set_{A:Nat→Prop}{w wr:World}{B g n c i:Nat}{F:List (List UInt8)}{u:Value}{l:List UInt8}(h:Und A w B wr (.slice (some ⟨g,0,none⟩) n c) F)(hn:n=F.length)(hu:RAd A w u l):
  Und A w B (wr.setCell ⟨g,i,none⟩ u) (.slice (some ⟨g,0,none⟩) n c) (F.set i l):=by
 subst hn;obtain⟨qs,rfl,h2,h3⟩:=h;refine⟨qs.set i (l,u),by rw[List.map_set],?_,fun q hq=>?_⟩
 ·have:=(h2.stored i u).1
  rw[List.length_set,List.map_set];exact this
 ·rcases List.mem_or_eq_of_mem_set hq with hq|rfl
  ·exact h3 q hq
  ·exact hu
theorem Und.sr{A A':Nat→Prop}{w wr:World}{B:Nat}{v:Value}{F:List (List UInt8)}(h:Und A w B wr v F)(hb:Below w.heap.size w wr)(hA:∀k,A' k→A k∨w.heap.size≤k)(hB:∀k,A' k→k<B):SRd A' wr v F:=by
 obtain⟨qs,h1,h2,h3⟩:=h;exact⟨qs,h1,RowD.own (A:=A') h2 (fun k hk _ ha=>by have:=hB k ha;omega),fun q hq=>(h3 q hq).fr (D:=fun _=>False) (Fr.of_below hb) (fun _ h=>h.elim) hA⟩
theorem refcrash_any{A:Nat→Prop}{w:World}{tv kv:Value}{s:Sim}(K:List Bool)(h:TRd A w tv s)(hok:OK s)(hA:∀k,A k→k<w.heap.size)(hK:KW w kv K):
  Calls Tryz.prog 22 #[tv,kv] w (MadeD A w (s.crash K)):=by
 have qI:=qH hK;obtain⟨AK,cK,rfl,_⟩:=hK;obtain⟨nK,uh⟩:∃nK,nK=K.length:=⟨_,rfl⟩
 rw[←uh] at qI⊢;have zh:=qH uh;obtain⟨vS,vL,lf,cw,cf,rfl,hS,hL,bV⟩:=h;obtain⟨aS,cS,rfl,hc⟩:=hS.shape;obtain⟨aL,cL,rfl,_⟩:=hL.shape;have Gf:s.loose.length≤100000:=hok.w;have Hl:=hok.n;have HS:=qH hS;have HL:=qH hL;have HO:=qH hok;have HA:=qH hA;obtain⟨N,hN⟩:∃N,N=s.firm.length:=⟨_,rfl⟩
 rw[←hN] at hc Hl;have HN:=qH hN;clear hS hL bV hok hA uh;rw[←hN];clear hN;obtain⟨f0,ii⟩:∃f0,f0=s.fuse.isSome:=⟨_,rfl⟩
 rw[←ii];clear ii;have yj:∃qs:List (List UInt8×Value),qs.map (·.1)=s.firm∧(∀q∈qs,RAd A w q.2 q.1)∧∀w',Below w.heap.size w w'→Src Tryz.prog 1 26 (.slice aS N cS) N (qs.map (·.2)) w':=by
  obtain⟨qs,h1,h2,h3⟩:=HS.out;refine⟨qs,h1,h3,fun w' hb=>?_⟩;have h4:=h2.fr (D:=fun _=>False) (A':=A) (Fr.of_below hb) (fun _ h=>h.elim) (fun _ h=> .inl h);rw[←HN.out] at h4;refine h4.src (by rw[HN.out,←h1];simp) (by decide) Tryz.underlying26 (fun x hx=>?_);obtain⟨q,hq,rfl⟩:=List.mem_map.1 hx;exact(h3 q hq).one
 obtain⟨qs,hq1,hq2,hsrc⟩:=yj;have G8:=qH hq1;have I7:=qH hq2;have ET:=qH hsrc;clear hq1 hq2 hsrc;have lR:=qH (show 0+N≤maxLen by unfold maxLen;omega);have lU:=qH (show(0+N)*24≤140737488355328 by omega);go_enter Tryz.func22,Tryz.ntmps22;go_wp2_with (at_builtin;refine wpList_own rfl (.tmp 7) (.tmp 9) 26 26 rfl (w.heap.size+1+1) 46 (.slice none 0 0) 1 24 Tryz.underlying26 info46 rfl rfl (World.ownsRow_nil _ _ _ _) rfl (ET.out _ (below2 w _ _)) (Below.refl (w.heap.size+1+1) _) (Nat.le_refl _) lR.out lU.out (by simp) ?_)
 intro vs w2 hown ad _;obtain⟨g2,hg2⟩:∃g2,g2=w.heap.size:=⟨_,rfl⟩
 have hU:Und A w (g2+1+1) w2 vs s.firm:=by
  refine⟨qs,G8.out,?_,I7.out⟩;rw[←HN.out,hg2];exact hown
 obtain⟨W1,hW1⟩:∃W1,W1=((w.alloc (Obj.cells #[Value.slice aS N cS,Value.slice aL s.loose.length cL,Value.int IntKind.i64 cw,Value.int IntKind.i64 cf,Value.bool f0,Value.int IntKind.i64 lf] 29)).alloc (Obj.cells #[Value.slice none 0 0,Value.slice none 0 0,Value.int IntKind.i64 0,Value.int IntKind.i64 0,Value.bool false,Value.int IntKind.i64 0] 29)):=⟨_,rfl⟩
 rw[←hW1] at ad;have hb1:Dv.Blk W1 g2 29 #[Value.slice aS N cS,Value.slice aL s.loose.length cL,Value.int IntKind.i64 cw,Value.int IntKind.i64 cf,Value.bool f0,Value.int IntKind.i64 lf]:=by rw[hW1,hg2];exact heap_alloc2_old w _ _
 have hb2:Dv.Blk W1 (g2+1) 29 #[Value.slice none 0 0,Value.slice none 0 0,Value.int IntKind.i64 0,Value.int IntKind.i64 0,Value.bool false,Value.int IntKind.i64 0]:=by rw[hW1,hg2];exact heap_alloc2_new w _ _
 have aj:Below w.heap.size w w2:=by
  have:Below w.heap.size w W1:=by rw[hW1];exact below2 w _ _
  exact this.trans (ad.mono (by omega))
 have hs2:g2+1+1≤w2.heap.size:=by
  have h1:=ad.size;have h2:W1.heap.size=w.heap.size+1+1:=by rw[hW1];simp
  omega
 have an:=qH (hb1.below ad (by omega));have ae:=qH (hb2.below ad (by omega));have aw:=qH aj;have HU:=qH hU;have fE:=qH hs2;have bw:=qH (qI.out.fr (Fr.of_below aj) (fun _ _ h=>h));have HG2:=qH hg2;obtain⟨aT,cs,rfl,hcs⟩:=own_shape hown;rw[←hg2];clear hW1 hb1 hb2 aj hU hg2 hown ad hs2;go_wp2
 go_loopw [6] (fun i wr=>∃k:Nat,k≤s.loose.length∧i= .int .i64 k∧Und A w (g2+1+1) wr (.slice aT N cs) (kept s.firm s.loose K k)∧Below (g2+1+1) w2 wr) (fun i _=>s.loose.length-(intOf i).toNat)
 case atStart=>exact⟨0,Nat.zero_le _,rfl,HU.out,Below.refl _ _⟩
 case round=>
  obtain⟨k,hk,rfl,hu,ad⟩:=hrel;have kX:=qH (an.out.below ad (by omega));have hc1:wr.cell? ⟨g2,1,none⟩=some (.slice aL s.loose.length cL):=kX.out.cell 1;have aj:Below w.heap.size w wr:=aw.out.trans (ad.mono (by have:=HG2.out;omega));have Kt:=qH (qI.out.fr (Fr.of_below aj) (fun _ _ h=>h));have Jy:=qH (HL.out.below aj);have lI:=qH aj;clear aj;by_cases hlt:k<s.loose.length
  ·have eD:=Kt.out.at_ (k:=k) zh.out
   rcases eD with ⟨hv,eD⟩|⟨hv,hkn,bK,oK,hAK,hbK,hcK⟩
   ·have e:kept s.firm s.loose K (k+1)=kept s.firm s.loose K k:=by rw[kept,if_neg (by rw[hv];decide)]
    have HE:=qH e;have At:=qH hu;have jL:=qH ad;clear e hv hu ad;rcases eD with hkn|⟨hkn,bK,oK,hAK,hbK,hcK⟩
    ·go_wp2
     go_roundw
     case rel=>exact⟨k+1,by omega,by go_num,by rw[HE.out];exact At.out,jL.out⟩
     case measure=>simp[intOf];omega
    ·subst hAK
     go_wp2;go_roundw
     case rel=>exact⟨k+1,by omega,by go_num,by rw[HE.out];exact At.out,jL.out⟩
     case measure=>simp[intOf];omega
   ·have hx:=HO.out.wat_ hlt
    obtain⟨bL,uL,zS,hbL,_,vt,EO,tm⟩:=Jy.out.at_ hlt;obtain⟨_,Jd,kx,_,_,_,ua,m5⟩:=HL.out.at_ hlt;have AP:Jd=uL:=by
     rw[zS] at kx;injection kx with kx;injection kx with kx _ _;subst kx;have gV:bL<w.heap.size:=World.block_lt_of_cell? w _ ua;have:=(lI.out.cell (p:=⟨bL,k*2+1,none⟩) gV).trans ua;rw[EO] at this;injection this with this;exact this.symm
    rw[AP] at m5;have e:kept s.firm s.loose K (k+1)=(kept s.firm s.loose K k).set (wat s.loose k).1 (wat s.loose k).2:=by rw[kept,if_pos hv]
    obtain⟨x,fe⟩:∃x,x=wat s.loose k:=⟨_,rfl⟩
    rw[←fe] at hx vt m5 e;have ez:=kept_length s.firm s.loose K k;have Ho:x.1<N:=by rw[HN.out];exact hx.1
    have hown:∃gs,aT=some ⟨gs,0,none⟩∧g2+1+1≤gs∧(∃y,wr.cell? ⟨gs,x.1,none⟩=some y)∧wr.frozen? ⟨gs,x.1,none⟩=false:=by
     obtain⟨FN,h1,h2,_⟩:=hu;have Bd:(FN.map (·.2)).length=N:=by rw[HN.out,←ez,←h1];simp
     rw[ez,←HN.out] at h2;rcases h2.2 with ⟨_,h0⟩|⟨g,cap,cur,he,hge,_⟩
     ·omega
     ·injection he with he _ he3
      subst he;refine⟨g,rfl,hge,⟨(FN.map (·.2))[x.1]'(by omega),?_⟩,h2.frozenAt _⟩;rw[h2.cellAt x.1 (by omega),List.getElem?_eq_getElem (by omega)]
    obtain⟨gs,Gu,vY,⟨y0,hy0⟩,ay⟩:=hown;subst hAK;subst zS;subst Gu;obtain⟨aV,cV,xj,_,_,_⟩:=id m5.1;obtain⟨nV,uP⟩:∃nV,nV=x.2.length:=⟨_,rfl⟩
    rw[←uP] at xj;subst xj;have HE:=qH e;have At:=qH hu;have jL:=qH ad;have uX:=qH m5;have IA:=qH vY;have hx0:(0:Int)≤((x.1:Nat):Int):=by omega
    have hx1:((x.1:Nat):Int)<(N:Int):=by omega
    have dt:(0:Int)≤(k:Int):=by omega
    have hk1:(k:Int)<(s.loose.length:Int):=by omega
    have lh:=qH ez;unfold iv at vt;clear e hv hu ad m5 vY tm hx fe uP AP ua kx ez Ho;go_wp2
    go_region
    all_goals
     go_wp2;go_roundw
     case rel=>
      refine⟨k+1,by omega,by go_num,?_,?_⟩
      ·rw[HE.out]
       have h9:=At.out.set_ (i:=x.1) (by rw[lh.out,HN.out]) uX.out;exact h9
      ·exact(jL.out.setCell (p:=⟨gs,x.1,none⟩) IA.out _).trans ⟨rfl,rfl,rfl,Nat.le_refl _,fun _ _=>rfl⟩
     case measure=>simp[intOf];omega
  ·obtain rfl:k=s.loose.length:=by omega
   have bW:=qH (ae.out.below ad (by omega));have bV:s.loose.length=s.loose.length:=rfl;have Be:SRd (fun k=>A k∨k=g2∨k=g2+1) wr (.slice aT N cs) (s.crash K).firm:=hu.sr lI.out (fun k hk=>by
    have:=HG2.out;rcases hk with hk|hk|hk
    ·exact .inl hk
    ·exact .inr (by omega)
    ·exact .inr (by omega)) (fun k hk=>by
    have:=HG2.out;rcases hk with hk|hk|hk
    ·have:=HA.out k hk;omega
    ·omega
    ·omega)
   have DV:=qH Be;have jL:=qH ad;have b0:wr.cell? ⟨g2,0,none⟩=some (.slice aS N cS):=kX.out.cell 0;have b2:wr.cell? ⟨g2,2,none⟩=some (.int .i64 cw):=kX.out.cell 2;have b3:wr.cell? ⟨g2,3,none⟩=some (.int .i64 cf):=kX.out.cell 3;have b4:wr.cell? ⟨g2,4,none⟩=some (.bool f0):=kX.out.cell 4;have b5:wr.cell? ⟨g2,5,none⟩=some (.int .i64 lf):=kX.out.cell 5;have bf:∀i,wr.frozen? ⟨g2,i,none⟩=false:=kX.out.frozen;have d0:wr.cell? ⟨g2+1,0,none⟩=some (.slice none 0 0):=bW.out.cell 0;have d1:wr.cell? ⟨g2+1,1,none⟩=some (.slice none 0 0):=bW.out.cell 1;have d2:wr.cell? ⟨g2+1,2,none⟩=some (.int .i64 0):=bW.out.cell 2;have d3:wr.cell? ⟨g2+1,3,none⟩=some (.int .i64 0):=bW.out.cell 3;have d4:wr.cell? ⟨g2+1,4,none⟩=some (.bool false):=bW.out.cell 4;have d5:wr.cell? ⟨g2+1,5,none⟩=some (.int .i64 0):=bW.out.cell 5;have df:∀i,wr.frozen? ⟨g2+1,i,none⟩=false:=bW.out.frozen;clear hu ad bV Be;go_wp2;refine bodyPost_ret (v:= .agg #[.slice aT N cs,.slice none 0 0,.int .i64 cw,.int .i64 cf,.bool false,.int .i64 0]) (by simp[results,Tryz.results22,go_sem,d0,d1,d2,d3,d4,d5]) rfl ?_;have hg:=HG2.out;have ay:∀(D:Nat→Prop) (_:D g2) (_:D (g2+1)) (u0 u1 u2 u3 v0 v1 v2 v3 v4 v5:Value),Fr D wr ((((((((((wr.setCell ⟨g2,0,none⟩ u0).setCell ⟨g2,1,none⟩ u1).setCell ⟨g2,4,none⟩ u2).setCell ⟨g2,5,none⟩ u3).setCell ⟨g2+1,0,none⟩ v0).setCell ⟨g2+1,1,none⟩ v1).setCell ⟨g2+1,2,none⟩ v2).setCell ⟨g2+1,3,none⟩ v3).setCell ⟨g2+1,4,none⟩ v4).setCell ⟨g2+1,5,none⟩ v5):=
    fun D h1 h2 u0 u1 u2 u3 v0 v1 v2 v3 v4 v5=>((((((((((Fr.refl D wr).setCell (p:=⟨g2,0,none⟩) (.inl h1) u0).setCell (p:=⟨g2,1,none⟩) (.inl h1) u1).setCell (p:=⟨g2,4,none⟩) (.inl h1) u2).setCell (p:=⟨g2,5,none⟩) (.inl h1) u3).setCell (p:=⟨g2+1,0,none⟩) (.inl h2) v0).setCell (p:=⟨g2+1,1,none⟩) (.inl h2) v1).setCell (p:=⟨g2+1,2,none⟩) (.inl h2) v2).setCell (p:=⟨g2+1,3,none⟩) (.inl h2) v3).setCell (p:=⟨g2+1,4,none⟩) (.inl h2) v4).setCell (p:=⟨g2+1,5,none⟩) (.inl h2) v5
   refine⟨_,rfl,⟨_,_,0,_,_,rfl,DV.out.fr (D:=fun k=>k=g2∨k=g2+1) (ay _ (.inl rfl) (.inr rfl) _ _ _ _ _ _ _ _ _ _) (fun k hk=> .inr hk) (fun k hk=> .inl (.inl hk)),LRd.nil_ _ _,fun k hk=>(by cases hk)⟩,?_⟩;refine lI.out.trans ((ay (fun k=>k=g2∨k=g2+1) (.inl rfl) (.inr rfl) _ _ _ _ _ _ _ _ _ _).below (fun k hk=>by rcases hk with rfl|rfl <;>omega) lI.out.size)
def trues(k:Nat):List Value:=List.replicate k (.bool true)
theorem trues_succ(k:Nat):trues (k+1)=trues k++ [.bool true]:=List.replicate_succ'
theorem KB.own{w:World}{base n:Nat}{v:Value}(h:w.ownsRow base 4 1 v n (trues n)):KW w v (List.replicate n true):=by
 rcases h.2 with ⟨rfl,h0⟩|⟨g,cap,cur,rfl,hb,hg,_⟩
 ·subst h0
  exact⟨none,0,rfl,.inl rfl⟩
 ·refine⟨_,cap,by rw[List.length_replicate],.inr ⟨g,0,rfl,(h.lt g rfl).2,fun h=>h,fun j hj=>?_⟩⟩
  rw[List.length_replicate] at hj;rw[Nat.zero_add,h.cellAt j (by omega)];simp[trues,hj]
theorem info4:(Tryz.prog.info? 4).map (fun i=>(i.zero,i.size,i.bytes))=some (some (.bool false),1,1):=by kernel_rfl
theorem refflush_any{A:Nat→Prop}{w:World}{tv:Value}{s:Sim}(h:TRd A w tv s)(hok:OK s)(hA:∀k,A k→k<w.heap.size):
  Calls Tryz.prog 44 #[tv] w (MadeD A w s.flush):=by
 have HT:=qH h;obtain⟨vS,vL,lf,cw,cf,rfl,hS,hL,bV⟩:=h;obtain⟨aS,cS,rfl,hc⟩:=hS.shape;obtain⟨aL,cL,rfl,_⟩:=hL.shape;have HO:=qH hok;have HA:=qH hA;clear hS hL bV hok hA;obtain⟨f0,ii⟩:∃f0,f0=s.fuse.isSome:=⟨_,rfl⟩
 rw[←ii] at HT⊢;clear ii;go_enter Tryz.func44,Tryz.ntmps44;go_wp2_with fail
 go_at_call 83;refine(burn_any (A:=fun k=>A k∨k=w.heap.size∨k=w.heap.size+1) ((HT.out.fr (D:=fun _=>False) (Fr.of_below (below2 w _ _)) (fun _ h=>h.elim) (fun k hk=>by
  rcases hk with hk|hk|hk
  ·exact .inl hk
  ·exact .inr (by omega)
  ·exact .inr (by omega)))) HO.out.u).mono ?_
 rintro e w1⟨Bj,rfl,ht,hb⟩;obtain⟨W1,hW1⟩:∃W1,W1=((w.alloc (Obj.cells #[Value.slice aS s.firm.length cS,Value.slice aL s.loose.length cL,Value.int IntKind.i64 cw,Value.int IntKind.i64 cf,Value.bool f0,Value.int IntKind.i64 lf] 29)).alloc (Obj.cells #[Value.slice none 0 0,Value.slice none 0 0,Value.int IntKind.i64 0,Value.int IntKind.i64 0,Value.bool false,Value.int IntKind.i64 0] 29)):=⟨_,rfl⟩
 rw[←hW1] at hb;have hb2:Dv.Blk W1 (w.heap.size+1) 29 #[Value.slice none 0 0,Value.slice none 0 0,Value.int IntKind.i64 0,Value.int IntKind.i64 0,Value.bool false,Value.int IntKind.i64 0]:=by rw[hW1];exact heap_alloc2_new w _ _
 have hs1:W1.heap.size=w.heap.size+1+1:=by rw[hW1];simp
 have aj:Below w.heap.size w w1:=by
  have:Below w.heap.size w W1:=by rw[hW1];exact below2 w _ _
  exact this.trans (hb.mono (by omega))
 obtain⟨g2,hg2⟩:∃g2,g2=w.heap.size:=⟨_,rfl⟩
 rw[←hg2] at hb2 hs1 ht⊢;have hs2:g2+1+1≤w1.heap.size:=by have:=hb.size;omega
 have ae:=qH (hb2.below hb (by omega));have aw:=qH aj;have HG2:=qH hg2;have fE:=qH hs2;clear hW1 hb hb2 hs1 aj hg2 hs2
 cases hg:s.goes with
 |false=>
  rw[hg] at ht;have e:s.flush=s:=by simp[Sim.flush,hg]
  rw[e];obtain⟨DD,CM,lf1,dP,dX,rfl,hS1,lM,io⟩:=id ht;obtain⟨dM,dH,rfl,_⟩:=hS1.shape;obtain⟨eJ,eI,rfl,_⟩:=lM.shape;have jo:=qH hS1;have GY:=qH lM;have s6:=qH io;have d0:w1.cell? ⟨g2+1,0,none⟩=some (.slice none 0 0):=ae.out.cell 0;have d1:w1.cell? ⟨g2+1,1,none⟩=some (.slice none 0 0):=ae.out.cell 1;have d2:w1.cell? ⟨g2+1,2,none⟩=some (.int .i64 0):=ae.out.cell 2;have d3:w1.cell? ⟨g2+1,3,none⟩=some (.int .i64 0):=ae.out.cell 3;have d4:w1.cell? ⟨g2+1,4,none⟩=some (.bool false):=ae.out.cell 4;have d5:w1.cell? ⟨g2+1,5,none⟩=some (.int .i64 0):=ae.out.cell 5;have df:∀i,w1.frozen? ⟨g2+1,i,none⟩=false:=ae.out.frozen;have hlt:=ae.out.lt;have km:=qH ht;have HE:=qH e;clear ht hg e hS1 lM io;obtain⟨f1,eo⟩:∃f1,f1=s.fuse.isSome:=⟨_,rfl⟩
  simp only[Bool.false_eq_true,if_false] at km⊢;rw[←eo] at km⊢;clear eo;go_wp2;have hblk:=(blk_six ae.out (.slice dM s.firm.length dH) (.slice eJ s.loose.length eI) (.int .i64 dP) (.int .i64 dX) (.bool f1) (.int .i64 lf1)).alloc (Obj.cells #[Value.slice dM s.firm.length dH,Value.slice eJ s.loose.length eI,Value.int IntKind.i64 dP,Value.int IntKind.i64 dX,Value.bool f1,Value.int IntKind.i64 lf1] 29);refine bodyPost_ret (v:= .agg #[.slice dM s.firm.length dH,.slice eJ s.loose.length eI,.int .i64 dP,.int .i64 dX,.bool f1,.int .i64 lf1]) (results_cell_row rfl _ _ (g2+1) 29 _ (0,0) _ rfl hblk Tryz.underlying29 rfl (six38 _ _ _ _ _ _)) rfl ?_;rw[HE.out];have ay:=(fr_six (Fr.refl (fun k=>k=g2+1) w1) (.inl rfl) (.slice dM s.firm.length dH) (.slice eJ s.loose.length eI) (.int .i64 dP) (.int .i64 dX) (.bool f1) (.int .i64 lf1)).alloc (Obj.cells #[Value.slice dM s.firm.length dH,Value.slice eJ s.loose.length eI,Value.int IntKind.i64 dP,Value.int IntKind.i64 dX,Value.bool f1,Value.int IntKind.i64 lf1] 29);exact⟨_,rfl,km.out.fr ay (fun k hk=> .inr (.inr hk)) (fun k hk=> .inl (.inl hk)),aw.out.trans (ay.below (fun k hk=>by have:=HG2.out;omega) aw.out.size)⟩
 |true=>
  rw[hg] at ht;have e:s.flush={s.burnt.land (List.replicate s.loose.length true) with nw:=fadd s.nw 0,nf:=fadd s.nf one64}:=by simp[Sim.flush,hg]
  have ht1:TRd (fun k=>A k∨k=g2∨k=g2+1) w1 Bj s.burnt:=ht;obtain⟨DD,CM,lf1,dP,dX,rfl,hS1,lM,io⟩:=id ht1;obtain⟨dM,dH,rfl,_⟩:=hS1.shape;obtain⟨eJ,eI,rfl,_⟩:=lM.shape;have km:=qH ht1;have HE:=qH e;have s6:=qH io;have e1:s.burnt.firm.length=s.firm.length:=rfl;have e2:s.burnt.loose.length=s.loose.length:=rfl;obtain⟨f1,eo⟩:∃f1,f1=s.burnt.fuse.isSome:=⟨_,rfl⟩
  rw[e1,e2,←eo] at km⊢;have sE:=qH eo;have Gf:s.loose.length≤100000:=HO.out.w;clear ht ht1 hg e hS1 lM io eo e1 e2;obtain⟨g3,hg3⟩:∃g3,g3=w1.heap.size:=⟨_,rfl⟩
  have mb:=qH hg3;go_wp2;rw[←hg3];obtain⟨W3,hW3⟩:∃W3,W3=w1.alloc (Obj.cells #[Value.slice dM s.firm.length dH,Value.slice eJ s.loose.length eI,Value.int IntKind.i64 dP,Value.int IntKind.i64 dX,Value.bool f1,Value.int IntKind.i64 lf1] 29):=⟨_,rfl⟩
  rw[←hW3];have hb3:Dv.Blk W3 g3 29 #[Value.slice dM s.firm.length dH,Value.slice eJ s.loose.length eI,Value.int IntKind.i64 dP,Value.int IntKind.i64 dX,Value.bool f1,Value.int IntKind.i64 lf1]:=by rw[hW3,hg3];exact heap_alloc_new w1 _
  have Dq:=qH (show Below w1.heap.size w1 W3 by rw[hW3];exact(Below.refl _ _).alloc (Nat.le_refl _) _);have ak:=qH hb3;have uW:=qH (show W3.heap.size=g3+1 by rw[hW3,hg3];simp);clear hW3 hg3 hb3
  go_loopw [5,6] (fun v i wr=>∃k:Nat,k≤s.loose.length∧i= .int .i64 k∧wr.ownsRow W3.heap.size 4 1 v k (trues k)∧Below W3.heap.size W3 wr) (fun _ i _=>s.loose.length-(intOf i).toNat)
  case atStart=>exact⟨0,Nat.zero_le _,rfl,World.ownsRow_nil _ _ _ _,Below.refl _ _⟩
  case round=>
   obtain⟨k,hk,rfl,hown,ad⟩:=hrel;obtain⟨A3,c3,rfl,hc3⟩:=own_shape hown;have fc:=qH (ak.out.below ad ak.out.lt);have hc1:wr.cell? ⟨g3,1,none⟩=some (.slice eJ s.loose.length eI):=fc.out.cell 1;by_cases hlt:k<s.loose.length
   ·have x8:=qH hown
    have tt:=qH ad;clear hown ad;go_wp2_with (at_builtin;refine wpList_own rfl (.tmp 23) (.tmp 24) 47 47 rfl W3.heap.size 4 (.bool false) 1 1 Tryz.underlying47 info4 rfl rfl (x8.out.alloc _) rfl (src_one wr Tryz.underlying47 4 _ rfl) (tt.out.alloc tt.out.size _) (Nat.le_refl _) ?_ ?_ ?_ ?_)
    ·unfold maxLen;omega
    ·omega
    ·have:=tt.out.size;simp;omega
    intro v5 w5 ao aH _;rw[←trues_succ] at ao;have dK:=qH ao;have ax:=qH aH;clear ao aH;go_wp2;go_roundw
    case rel=>exact⟨k+1,by omega,by go_num,dK.out,ax.out⟩
    case measure=>simp[intOf];omega
   ·obtain rfl:k=s.loose.length:=by omega
    have ic:=qH (KB.own hown);have hbr:Below w1.heap.size w1 wr:=Dq.out.trans (ad.mono (by have:=uW.out;have:=mb.out;omega));have Gq:TRd (fun k=>(A k∨k=g2∨k=g2+1)∨k=g3) wr _ s.burnt:=km.out.fr (D:=fun _=>False) (Fr.of_below hbr) (fun _ h=>h.elim) (fun k hk=>by
     rcases hk with hk|hk
     ·exact .inl hk
     ·exact .inr (by have:=mb.out;omega))
    have Jf:=qH Gq;have jL:=qH hbr;have Hg:=qH (show ∀k,((A k∨k=g2∨k=g2+1)∨k=g3)→k<wr.heap.size from fun k hk=>by
     have h1:=fc.out.lt;have h2:=HG2.out;have h3:=mb.out;have h4:=fE.out;rcases hk with (hk|hk|hk)|hk
     ·have:=HA.out k hk;omega
     ·omega
     ·omega
     ·omega)
    have c0:wr.cell? ⟨g3,0,none⟩=some (.slice dM s.firm.length dH):=fc.out.cell 0;have c2:wr.cell? ⟨g3,2,none⟩=some (.int .i64 dP):=fc.out.cell 2;have wJ:wr.cell? ⟨g3,3,none⟩=some (.int .i64 dX):=fc.out.cell 3;have c4:wr.cell? ⟨g3,4,none⟩=some (.bool f1):=fc.out.cell 4;have c5:wr.cell? ⟨g3,5,none⟩=some (.int .i64 lf1):=fc.out.cell 5;have bW:=qH (ae.out.below hbr (by have:=fE.out;omega));clear hown ad Gq hbr;go_wp2_with fail
    go_at_call 22;refine(refcrash_any _ Jf.out HO.out.burnt Hg.out ic.out).mono ?_;rintro e w4⟨KZ,rfl,qz,hb4⟩;obtain⟨Lb,Ln,lf4,uz,uG,rfl,AW,hL4,_⟩:=id qz;obtain⟨vd,uQ,rfl,_⟩:=AW.shape;obtain⟨uK,uJ,rfl,_⟩:=hL4.shape;have eV:=qH (fc.out.below hb4 fc.out.lt);have jb:=qH (bW.out.below hb4 bW.out.lt);obtain⟨C,hC⟩:∃C,C=s.burnt.crash (List.replicate s.loose.length true):=⟨_,rfl⟩
    rw[←hC] at qz AW hL4⊢;have Hn:=qH AW;have Js:=qH hL4;obtain⟨f4,um⟩:∃f4,f4=C.fuse.isSome:=⟨_,rfl⟩
    rw[←um] at qz⊢;have HC:=qH hC;clear hC um;have KK:=qH qz;have ai:=qH hb4;have e4:w4.cell? ⟨g3,4,none⟩=some (.bool f1):=eV.out.cell 4;have e5:w4.cell? ⟨g3,5,none⟩=some (.int .i64 lf1):=eV.out.cell 5;have d0:w4.cell? ⟨g2+1,0,none⟩=some (.slice none 0 0):=jb.out.cell 0;have d1:w4.cell? ⟨g2+1,1,none⟩=some (.slice none 0 0):=jb.out.cell 1;have d2:w4.cell? ⟨g2+1,2,none⟩=some (.int .i64 0):=jb.out.cell 2;have d3:w4.cell? ⟨g2+1,3,none⟩=some (.int .i64 0):=jb.out.cell 3;have d4:w4.cell? ⟨g2+1,4,none⟩=some (.bool false):=jb.out.cell 4;have d5:w4.cell? ⟨g2+1,5,none⟩=some (.int .i64 0):=jb.out.cell 5;have df:∀i,w4.frozen? ⟨g2+1,i,none⟩=false:=jb.out.frozen;have l2:g2+1<w4.heap.size:=jb.out.lt;have l3:g3<w4.heap.size:=eV.out.lt;clear qz hb4 AW hL4 c0 hc1 c2 wJ c4 c5;go_wp2;have hblk:=(blk_six jb.out (.slice vd C.firm.length uQ) (.slice uK C.loose.length uJ) (.int .i64 uz) (.int .i64 (wrap64 (uG+1))) (.bool f1) (.int .i64 lf1)).alloc (Obj.cells #[Value.slice vd C.firm.length uQ,Value.slice uK C.loose.length uJ,Value.int IntKind.i64 uz,Value.int IntKind.i64 (wrap64 (uG+1)),Value.bool f1,Value.int IntKind.i64 lf1] 29);refine bodyPost_ret (v:= .agg #[.slice vd C.firm.length uQ,.slice uK C.loose.length uJ,.int .i64 uz,.int .i64 (wrap64 (uG+1)),.bool f1,.int .i64 lf1]) (results_cell_row rfl _ _ (g2+1) 29 _ (0,0) _ rfl hblk Tryz.underlying29 rfl (six38 _ _ _ _ _ _)) rfl ?_;rw[HE.out];have ay:=(fr_six (Fr.refl (fun k=>k=g2+1) w4) (.inl rfl) (.slice vd C.firm.length uQ) (.slice uK C.loose.length uJ) (.int .i64 uz) (.int .i64 (wrap64 (uG+1))) (.bool f1) (.int .i64 lf1)).alloc (Obj.cells #[Value.slice vd C.firm.length uQ,Value.slice uK C.loose.length uJ,Value.int IntKind.i64 uz,Value.int IntKind.i64 (wrap64 (uG+1)),Value.bool f1,Value.int IntKind.i64 lf1] 29);have qa:=Hn.out.fr (A':=A) ay (fun k hk=> .inl (.inr (.inr hk))) (fun k hk=> .inl (.inl (.inl hk)));have GL:=Js.out.fr (A':=A) ay (fun k hk=> .inl (.inr (.inr hk))) (fun k hk=> .inl (.inl (.inl hk)));have hbb:Below w.heap.size w w4:=(aw.out.trans (jL.out.mono aw.out.size)).trans (ai.out.mono (Nat.le_trans aw.out.size jL.out.size));have dV:=hbb.trans (ay.below (fun k hk=>by have:=HG2.out;omega) hbb.size);have hq1:C.firm=({s.burnt.land (List.replicate s.loose.length true) with nw:=fadd s.nw 0,nf:=fadd s.nf one64}:Sim).firm:=by rw[HC.out];rfl
    have hq2:C.loose=({s.burnt.land (List.replicate s.loose.length true) with nw:=fadd s.nw 0,nf:=fadd s.nf one64}:Sim).loose:=by rw[HC.out];rfl
    have zU:({s.burnt.land (List.replicate s.loose.length true) with nw:=fadd s.nw 0,nf:=fadd s.nf one64}:Sim).fuse=s.burnt.fuse:=rfl;generalize ({s.burnt.land (List.replicate s.loose.length true) with nw:=fadd s.nw 0,nf:=fadd s.nf one64}:Sim)=G at hq1 hq2 zU⊢;have CL:∀k,G.fuse=some k→lf1=(k:Int):=by rw[zU];exact s6.out
    rw[hq1] at qa;rw[hq2] at GL;refine⟨_,rfl,⟨.slice vd C.firm.length uQ,.slice uK C.loose.length uJ,lf1,uz,wrap64 (uG+1),?_,?_,?_,CL⟩,?_⟩
    ·rw[zU,←sE.out]
    ·rw[hq1]
     exact qa
    ·rw[hq2]
     exact GL
    ·exact dV
open Go.RowKit Go.Rst Go.Pg Go.Crc Go.Dv
def RVP(P:Value→List UInt8→Prop)(A:Nat→Prop)(w:World)(v:Value)(rs:List Rw):Prop:=
 ∃a c,v= .slice a rs.length c∧rs.length≤c∧c≤maxLen∧(rs= []∨∃b off,a=some ⟨b,off,none⟩∧b<w.heap.size∧¬A b∧
  ∀j (h:j<rs.length),w.cell? ⟨b,off+j*2,none⟩=some (.string rs[j].1)∧∃u,w.cell? ⟨b,off+j*2+1,none⟩=some u∧P u rs[j].2)
def CVP(P:Value→List UInt8→Prop)(w:World)(v:Value)(rs:List Chg):Prop:=
 ∃a c,v= .slice a rs.length c∧rs.length≤c∧c≤maxLen∧(rs= []∨∃b off,a=some ⟨b,off,none⟩∧b<w.heap.size∧
  ∀j (h:j<rs.length),w.cell? ⟨b,off+j*3,none⟩=some (.string rs[j].1)∧(∃u,w.cell? ⟨b,off+j*3+1,none⟩=some u∧P u rs[j].2.1)∧w.cell? ⟨b,off+j*3+2,none⟩=some (.bool rs[j].2.2))
section
variable {P P':Value→List UInt8→Prop} {A A' D:Nat→Prop} {w w':World} {v:Value} {rs:List Rw}
theorem RVP.fr(h:RVP P A w v rs)(hf:Fr D w w')(hD:∀k,D k→A k)(hA:∀k,A' k→A k∨w.heap.size≤k)(hP:∀u l,P u l→P' u l):RVP P' A' w' v rs:=by
 obtain⟨a,c,rfl,h1,h2,h3⟩:=h;refine⟨a,c,rfl,h1,h2,h3.imp id fun h=>?_⟩;obtain⟨b,off,rfl,hb0,hn,hc⟩:=h;refine⟨b,off,rfl,Nat.lt_of_lt_of_le hb0 hf.size,fun ha=>by rcases hA b ha with h4|h4;exact hn h4;omega,fun j hj=>?_⟩;obtain⟨h4,u,h5,h6⟩:=hc j hj;have hbk:=hf.block b hb0 (fun hd=>hn (hD b hd));exact⟨(World.cell?_of_block (a:=⟨b,off+j*2,none⟩) hbk).trans h4,u,(World.cell?_of_block (a:=⟨b,off+j*2+1,none⟩) hbk).trans h5,hP _ _ h6⟩
theorem RVP.below{B:Nat}(h:RVP P A w v rs)(hb:Below B w w')(hB:w.heap.size≤B):RVP P A w' v rs:=
 h.fr (D:=fun _=>False) (Fr.of_below ⟨hb.os,hb.tape,hb.output,hb.size,fun k hk=>hb.block k (Nat.lt_of_lt_of_le hk hB)⟩) (fun _ h=>h.elim) (fun _ h=> .inl h) (fun _ _ h=>h)
theorem RVP.shape(h:RVP P A w v rs):∃A c,v= .slice A rs.length c∧rs.length≤c∧(c:Int)≤9223372036854775807:=by
 obtain⟨A,c,h,h1,h2,_⟩:=h;refine⟨A,c,h,h1,?_⟩;unfold maxLen at h2;omega
theorem rvp_at{a:Option Addr}{n c:Nat}(h:RVP P A w (.slice a n c) rs){k:Nat}(hk:k<rs.length):
  ∃b off u,a=some ⟨b,off,none⟩∧b<w.heap.size∧w.cell? ⟨b,off+k*2,none⟩=some (.string rs[k].1)∧w.cell? ⟨b,off+k*2+1,none⟩=some u∧P u rs[k].2:=by
 obtain⟨A',c',he,_,_,h3⟩:=h;injection he with e1 _ _;subst e1;rcases h3 with rfl|⟨b,off,rfl,hb,_,hc⟩
 ·simp at hk
 ·obtain⟨h1,u,h2,h3⟩:=hc k hk
  exact⟨b,off,u,rfl,hb,h1,h2,h3⟩
theorem RVP.own{base:Nat}{eR:TypeId}{us:List (ByteArray×List UInt8×Value)}(ho:w.ownsRow base eR 2 v us.length (rowCells us))(hf:∀x∈us,P x.2.2 x.2.1)(hA:∀k,A k→k<base):RVP P A w v (us.map (fun x=>(x.1,x.2.1))):=by
 rcases ho.2 with ⟨rfl,h0⟩|⟨g,cap,cur,rfl,hb,hg,hnc,hcm,hcs,ht⟩
 ·have:us= []:=List.eq_nil_of_length_eq_zero h0
  subst this;exact⟨none,0,rfl,Nat.le_refl _,Nat.zero_le _,.inl rfl⟩
 ·refine⟨some ⟨g,0,none⟩,cap,by rw[List.length_map],by rw[List.length_map];exact hnc,hcm,.inr ⟨g,0,rfl,(Array.getElem?_eq_some_iff.1 hg).1,fun ha=>by have:=hA g ha;omega,fun j hj=>?_⟩⟩
  rw[List.length_map] at hj;have hc:=rowCells_get us j hj;have h1:=ho.cells (g:=g) rfl _ _ hc.1;have h2:=ho.cells (g:=g) rfl _ _ hc.2;rw[Addr.add_lit] at h1 h2;refine⟨by simpa using h1,us[j].2.2,by simpa [Nat.add_assoc] using h2,?_⟩;have:=hf us[j] (List.getElem_mem hj)
  simpa using this
theorem RVP.rr(h:RVP P A w v rs)(hP:∀u l,P u l→RB w u l):RR w v rs:=by
 obtain⟨a,c,rfl,h1,h2,h3⟩:=h;refine⟨a,c,rfl,h1,h2,h3.imp id fun h=>?_⟩;obtain⟨b,off,rfl,hb0,_,hc⟩:=h;refine⟨b,off,rfl,hb0,fun j hj=>?_⟩;obtain⟨h4,u,h5,h6⟩:=hc j hj;exact⟨h4,u,h5,hP _ _ h6⟩
theorem cvp_at{a:Option Addr}{n c:Nat}{rs:List Chg}(h:CVP P w (.slice a n c) rs){k:Nat}(hk:k<rs.length):
  ∃b off u,a=some ⟨b,off,none⟩∧w.cell? ⟨b,off+k*3,none⟩=some (.string rs[k].1)∧w.cell? ⟨b,off+k*3+1,none⟩=some u∧P u rs[k].2.1∧w.cell? ⟨b,off+k*3+2,none⟩=some (.bool rs[k].2.2):=by
 obtain⟨A',c',he,_,_,h3⟩:=h;injection he with e1 _ _;subst e1;rcases h3 with rfl|⟨b,off,rfl,hb,hc⟩
 ·simp at hk
 ·obtain⟨h1,⟨u,h2,h3⟩,h4⟩:=hc k hk
  exact⟨b,off,u,rfl,h1,h2,h3,h4⟩
theorem CVP.fr{rs:List Chg}(h:CVP P w v rs)(hf:Fr D w w')(hD:∀a c,v= .slice a rs.length c→rs≠ []→∀b off,a=some ⟨b,off,none⟩→¬D b)(hP:∀u l,P u l→P' u l):CVP P' w' v rs:=by
 obtain⟨a,c,rfl,h1,h2,h3⟩:=h;refine⟨a,c,rfl,h1,h2,?_⟩;rcases h3 with h3|⟨b,off,rfl,hb0,hc⟩
 ·exact .inl h3
 by_cases hne:rs= []
 ·exact .inl hne
 refine .inr ⟨b,off,rfl,Nat.lt_of_lt_of_le hb0 hf.size,fun j hj=>?_⟩;obtain⟨h4,⟨u,h5,h6⟩,h7⟩:=hc j hj;have hbk:=hf.block b hb0 (hD _ _ rfl hne b off rfl);exact⟨(World.cell?_of_block (a:=⟨b,off+j*3,none⟩) hbk).trans h4,⟨u,(World.cell?_of_block (a:=⟨b,off+j*3+1,none⟩) hbk).trans h5,hP _ _ h6⟩,(World.cell?_of_block (a:=⟨b,off+j*3+2,none⟩) hbk).trans h7⟩
theorem CVP.below{rs:List Chg}(h:CVP P w v rs)(hb:Below w.heap.size w w')(hP:∀u l,P u l→P' u l):CVP P' w' v rs:=h.fr (D:=fun _=>False) (Fr.of_below hb) (fun _ _ _ _ _ _ _ h=>h) hP
theorem CVP.rc{rs:List Chg}(h:CVP P w v rs)(hP:∀u l,P u l→RB w u l):RC w v rs:=by
 obtain⟨a,c,rfl,h1,h2,h3⟩:=h;refine⟨a,c,rfl,h1,h2,h3.imp id fun h=>?_⟩;obtain⟨b,off,rfl,hb0,hc⟩:=h;refine⟨b,off,rfl,hb0,fun j hj=>?_⟩;obtain⟨h4,⟨u,h5,h6⟩,h7⟩:=hc j hj;exact⟨h4,⟨u,h5,hP _ _ h6⟩,h7⟩
def RRd(A:Nat→Prop)(w:World)(v:Value)(rs:List Rw):Prop:=RVP (RAd A w) A w v rs
def CRd(A:Nat→Prop)(w:World)(v:Value)(rs:List Chg):Prop:=CVP (RAd A w) w v rs
theorem RRd.fr(h:RRd A w v rs)(hf:Fr D w w')(hD:∀k,D k→A k)(hA:∀k,A' k→A k∨w.heap.size≤k):RRd A' w' v rs:=RVP.fr h hf hD hA (fun _ _ h=>h.fr hf hD hA)
theorem RRd.below(h:RRd A w v rs)(hb:Below w.heap.size w w'):RRd A w' v rs:=h.fr (D:=fun _=>False) (Fr.of_below hb) (fun _ h=>h.elim) (fun _ h=> .inl h)
theorem RRd.rr(h:RRd A w v rs):RR w v rs:=RVP.rr h (fun _ _ h=>h.1)
theorem CRd.rc{rs:List Chg}(h:CRd A w v rs):RC w v rs:=CVP.rc h (fun _ _ h=>h.1)
theorem CRd.below{rs:List Chg}(h:CRd A w v rs)(hb:Below w.heap.size w w'):CRd A w' v rs:=CVP.below h hb (fun _ _ h=>h.fr (D:=fun _=>False) (Fr.of_below hb) (fun _ h=>h.elim) (fun _ h=> .inl h))
theorem rad_shape{u:Value}{l:List UInt8}(h:RAd A w u l):∃A c,u= .slice A l.length c:=rb_shape h.1
end
open Go.RowKit Go.Rst Go.Dv
def ReadR(A:Nat→Prop)(w:World)(l:List UInt8)(e:Ending)(w':World):Prop:=∃u,e= .returned (.tuple #[u,.int .i64 0])∧RAd A w u l∧Below w.heap.size w w'
theorem ReadR.mk{A:Nat→Prop}{w w':World}{u:Value}{l l':List UInt8}(h:RAd A w u l)(hb:Below w.heap.size w w')(hl:l'=l):ReadR A w l' (.returned (.tuple #[u,.int .i64 0])) w':=
 ⟨u,rfl,by rw[hl];exact h,hb⟩
theorem refread_any{A:Nat→Prop}{w:World}{tv:Value}{s:Sim}(k:Nat)(h:TRd A w tv s)(hk:k<s.firm.length)(lH:s.loose.length≤100000)(hF:s.firm.length≤4096):
  Calls Tryz.prog 100 #[tv,.int .i64 (k:Int)] w (ReadR A w (s.read k)):=by
 obtain⟨vS,vL,lf,cw,cf,rfl,hS,hL,bV⟩:=h;obtain⟨aS,cS,rfl,hc⟩:=hS.shape;obtain⟨aL,cL,rfl,_⟩:=hL.shape;obtain⟨bS,uS,I9,EB,_,AR,CV⟩:=hS.at_ hk;subst I9;have dI:=qH CV;have HL:=qH hL;have hE:∀q,q=upTo s.loose k s.loose.length→(q=0→s.read k=s.firm.getD k [])∧(0<q→s.read k=(wat s.loose (q-1)).2):=fun q hq=>by
  subst hq;unfold Sim.read;refine⟨fun h0=>by rw[if_pos h0],fun h0=>by rw[if_neg (by omega)]⟩
 have HE:=qH hE;have dt:(0:Int)≤(k:Int):=by omega
 have hk1:(k:Int)<(s.firm.length:Int):=by omega
 have wB:∀o,(w.alloc o).cell? ⟨bS,k,none⟩=some uS:=fun o=>(World.cell?_of_block (a:=⟨bS,k,none⟩) (Below.heap_alloc w o bS EB)).trans AR
 obtain⟨aU,cU,Fp,_,_,_⟩:=CV.1;obtain⟨nU,DQ⟩:∃nU,nU=(s.firm.getD k []).length:=⟨_,rfl⟩
 rw[←DQ] at Fp;have Lr:=qH DQ;subst Fp;clear hS hL bV CV hE AR DQ;go_enter Tryz.func100,Tryz.ntmps100;go_wp2;have hcc:=wB (Obj.cells #[Value.slice (some ⟨bS,0,none⟩) s.firm.length cS,Value.slice aL s.loose.length cL,Value.int IntKind.i64 cw,Value.int IntKind.i64 cf,Value.bool s.fuse.isSome,Value.int IntKind.i64 lf] 29);clear wB;have qV:=qH hcc;clear hcc
 go_loop [6] (fun i=>∃j:Nat,j≤s.loose.length∧i= .int .i64 ((j:Int)-1)∧upTo s.loose k s.loose.length=upTo s.loose k j) (fun i=>(intOf i+1).toNat)
 case atStart=>exact⟨s.loose.length,Nat.le_refl _,rfl,rfl⟩
 case round=>
  obtain⟨j,hj,rfl,hu⟩:=hrel
  cases j with
  |zero=>
   have e0:(((0:Nat):Int)-1)= -1:=rfl;rw[e0];have HU:=qH hu;have hcc:=qV.out;clear hu;go_wp2
   go_ret2
   refine ReadR.mk dI.out ((Below.refl _ _).alloc (Nat.le_refl _) _) ?_;exact(HE.out 0 (by rw[HU.out];rfl)).1 rfl
  |succ j=>
   have e0:(((j+1:Nat):Int)-1)=(j:Int):=by omega
   rw[e0];have hj':j<s.loose.length:=by omega
   obtain⟨bL,uL,zS,hbL,_,hc1,hc2,tm⟩:=HL.out.at_ hj';obtain⟨x,hx⟩:∃x,x=wat s.loose j:=⟨_,rfl⟩
   rw[←hx] at hc1 tm;subst zS;have Hy:(w.alloc (Obj.cells #[Value.slice (some ⟨bS,0,none⟩) s.firm.length cS,Value.slice (some ⟨bL,0,none⟩) s.loose.length cL,Value.int IntKind.i64 cw,Value.int IntKind.i64 cf,Value.bool s.fuse.isSome,Value.int IntKind.i64 lf] 29)).cell? ⟨bL,j*2,none⟩=some (.int .i64 (x.1:Int)):=(World.cell?_of_block (a:=⟨bL,j*2,none⟩) (Below.heap_alloc w _ bL hbL)).trans hc1;have Cb:(w.alloc (Obj.cells #[Value.slice (some ⟨bS,0,none⟩) s.firm.length cS,Value.slice (some ⟨bL,0,none⟩) s.loose.length cL,Value.int IntKind.i64 cw,Value.int IntKind.i64 cf,Value.bool s.fuse.isSome,Value.int IntKind.i64 lf] 29)).cell? ⟨bL,j*2+1,none⟩=some uL:=(World.cell?_of_block (a:=⟨bL,j*2+1,none⟩) (Below.heap_alloc w _ bL hbL)).trans hc2;obtain⟨aV,cV,xj,_,_,_⟩:=id tm.1;obtain⟨nV,uP⟩:∃nV,nV=x.2.length:=⟨_,rfl⟩
   rw[←uP] at xj;subst xj;have uX:=qH tm;have HX:=qH hx;have HU:=qH hu;have yg:(j:Int)<(s.loose.length:Int):=by omega
   by_cases hxk:x.1=k
   ·have hd:((x.1:Int)==(k:Int))=true:=by rw[hxk];simp
    have wY:=qH hxk;clear hx hu hc1 hc2 tm hxk uP;go_wp2
    go_ret2
    refine ReadR.mk uX.out ((Below.refl _ _).alloc (Nat.le_refl _) _) ?_;have e:=(HE.out (j+1) (by rw[HU.out];unfold upTo;rw[if_pos (by rw[←HX.out];exact wY.out)])).2 (by omega);rw[e,HX.out];rfl
   ·have hd:((x.1:Int)==(k:Int))=false:=by simp;omega
    have wY:=qH hxk;clear hx hu hc1 hc2 tm hxk uP;go_wp2;go_round
    case rel=>exact⟨j,by omega,rfl,by rw[HU.out];conv=>{lhs;unfold upTo};rw[if_neg (by rw[←HX.out];exact wY.out)]⟩
    case measure=>simp[intOf]
end Go.Proofs.YtmbkaedhllfoeaaGreat
