/-
  Texts of the proof, put together.
-/
import Derived.OwnWalk
import Derived.Deep.AppendSrc
import Derived.Test.YtmbkaedhllfoeaaGreatKOD
import Derived.Test.YtmbkaedhllfoeaaGreatKOF
import Derived.Test.YtmbkaedhllfoeaaGreatKOCD
import Derived.Test.YtmbkaedhllfoeaaGreatKOWr
set_option maxRecDepth 100000
set_option maxHeartbeats 4000000
set_option linter.unusedVariables false
namespace Go.Proofs.YtmbkaedhllfoeaaGreat
open Go.RowKit Go.Rst Go.Dv
theorem step_make{P:Program}{w:World}{ops:Array Oper}{o:Oper}{a:Act}{K:Act→World→Prop}{Q:Exit→Act→World→Prop}{E:Prop}(hgd:o.guard=none)(l c:Operand)(t:TypeId)(hop:o.op=Op.makeSlice t l c)
  (base:Nat) (e:TypeId) (i:TypeInfo) (z:Value) (size:Nat) (h1:P.underlying t=some (.slice e)) (h2:P.info? e=some i) (h3:i.zero=some z) (h4:i.size=size)
  (kl kc:IntKind) (L C:Int) (n:Nat) (hl:a.eval l= .int kl L) (hc:a.eval c= .int kc C) (hL:L=(n:Int)) (hC:C=(n:Int)) (b2:i.bytes*n≤281474976710656) (b3:n≤maxLen) (b4:base≤w.heap.size)
  (hK:∀w',w'.ownsRow base e size (.slice (some ⟨w.heap.size,0,none⟩) n n) n (madeCells z.cells (n*size)).toList→w.grownBy w' none→K (a.put o.dst (.slice (some ⟨w.heap.size,0,none⟩) n n)) w'):
  if Region.wanted o (yielded ops a.tmps)=true then Oper.wp P o a w K Q else E:=by
 have hw:Region.wanted o (yielded ops a.tmps)=true:=by simp[Region.wanted,hgd]
 rw[if_pos hw];obtain⟨w',hrun,r1,r2⟩:=run_make_full (P:=P) w base t e i z size h1 h2 h3 h4 kl kc n b2 b3 b4;subst hL;subst hC;unfold Oper.wp;simp[execOp,hop,hl,hc,hrun,Result.andThen];exact hK w' r1 r2
theorem gen_alloc{K:World→Prop}{W:World}{o:Obj}(h:∀w',w'=W.alloc o→Below W.heap.size W w'→K w'):K (W.alloc o):=h _ rfl ((Below.refl _ _).alloc (Nat.le_refl _) _)
theorem gen_allocD{K:World→Prop}{W:World}{o:Obj}(h:∀w',w'=(W.alloc o).drew→Below W.heap.size W w'→K w'):K (W.alloc o).drew:=h _ rfl ((Below.refl _ _).alloc (Nat.le_refl _) _).drew
theorem made_firm(n:Nat):(madeCells (Value.agg (Array.replicate 64 (.int .u8 0))).cells (n*64)).toList=fcs (List.replicate n (List.replicate 64 0)):=by
 have hall:∀x∈List.replicate n (List.replicate 64 (0:UInt8)),x.length=64:=fun x hx=>by rw[List.eq_of_mem_replicate hx];simp
 apply List.ext_getElem
 ·rw[Array.length_toList,size_madeCells,fcs_length hall];simp
 ·intro j h1 h2
  have hj:j<n*64:=by rw[Array.length_toList,size_madeCells] at h1;exact h1
  have hb:bvs (List.replicate 64 (0:UInt8))=List.replicate 64 (bv 0):=by unfold bvs;rw[List.map_replicate]
  have e:=fcs_get hall (i:=j/64) (j:=j%64) (by rw[List.length_replicate];omega) (Nat.mod_lt _ (by decide));rw[show j/64*64+j%64=j from by omega,List.getElem?_eq_getElem h2,List.getElem_replicate,hb,List.getElem?_replicate,if_pos (Nat.mod_lt _ (by decide))] at e;injection e with e;rw[e];have hz:(Array.replicate 64 (Value.int .u8 0)).size=64:=by simp
  have hm:j%64<64:=Nat.mod_lt _ (by decide);simp only[madeCells,Value.cells,Array.toList_map,List.getElem_map,Array.getElem_toList,Array.getElem_range,hz];rw[getElem!_pos _ _ (by rw[hz];exact hm),Array.getElem_replicate];rfl
theorem made_new(n:Nat):(madeCells (Value.int .i64 0).cells (n*1)).toList=(List.replicate n 0).map iv:=by
 rw[Nat.mul_one];have:=toList_madeCells_one (.int .i64 0) n
 simpa [iv,Value.cells] using this
theorem new_mk{w w4:World}{n g gF gN:Nat}(hn:n≤4096)(hF:w4.ownsRow 0 121 64 (.slice (some ⟨gF,0,none⟩) n n) n (madeCells (Value.agg (Array.replicate 64 (.int .u8 0))).cells (n*64)).toList)
  (hN:w4.ownsRow 0 3 1 (.slice (some ⟨gN,0,none⟩) n n) n (madeCells (Value.int .i64 0).cells (n*1)).toList)
  (hb:Blk w4 g 119 #[.slice (some ⟨gF,0,none⟩) n n,.slice none 0 0,.slice (some ⟨gN,0,none⟩) n n,.bool false,.int .i64 0,.complex .f64 0 0])
  (b1:w.heap.size≤gF∧gF<w4.heap.size) (b2:w.heap.size≤gN∧gN<w4.heap.size) (b3:w.heap.size≤g) (n1:g≠gF) (n2:g≠gN) (n3:gF≠gN) (hs:w.heap.size≤w4.heap.size):
  Own w.heap.size w4 (.pointer (some ⟨g,0,none⟩)) (Sim.new n):=by
 rw[made_firm] at hF;rw[made_new] at hN;refine⟨fun k=>k=g∨k=gF∨k=gN,⟨⟨g,gF,gN,n,n,none,0,0⟩,rfl,⟨?_,?_,World.ownsRow_nil _ _ _ _,?_,.inl rfl,.inr (.inl rfl),.inr (.inr rfl),fun p hp=>(by cases hp),fun k hk=>?_,n1,n2,n3,fun p hp=>(by cases hp)⟩,OK.new hn,fun k hk=>(by cases hk)⟩,fun k hk=>?_,hs⟩
 ·have e:(dcs ⟨g,gF,gN,n,n,none,0,0⟩ (Sim.new n).firm.length (Sim.new n).loose.length (newL (Sim.new n).firm.length (Sim.new n).loose).length (Sim.new n).fuse.isSome (Sim.new n).nw (Sim.new n).nf)=#[.slice (some ⟨gF,0,none⟩) n n,.slice none 0 0,.slice (some ⟨gN,0,none⟩) n n,.bool false,.int .i64 0,.complex .f64 0 0]:=by
   simp only[dcs,newL_length];have e1:(Sim.new n).firm.length=n:=by simp[Sim.new]
   rw[e1];have e2:(Sim.new n).nw=0:=rfl;have e3:(Sim.new n).nf=0:=rfl;rw[e2,e3];rfl
  rw[e];exact hb
 ·have e1:(Sim.new n).firm.length=n:=by simp[Sim.new]
  rw[e1];exact hF
 ·have e1:(Sim.new n).firm.length=n:=by simp[Sim.new]
  have e2:(Sim.new n).loose= []:=rfl;rw[e1,e2,newL_nil,List.length_replicate];exact hN
 ·rcases hk with rfl|rfl|rfl
  ·exact hb.lt
  ·exact b1.2
  ·exact b2.2
 ·rcases hk with rfl|rfl|rfl
  ·exact b3
  ·exact b1.1
  ·exact b2.1
theorem own_grownD{w w':World}{base:Nat}{e:TypeId}{size:Nat}{v:Value}{n:Nat}{xs:List Value}(h:w.ownsRow base e size v n xs)(hg:w.grownBy w' none):w'.ownsRow base e size v n xs:=
 own_same h (fun k hk=>hg.block k (h.lt k hk).2 (by simp))
theorem new_any(n:Nat)(w:World)(h:n≤4096):
  Calls Tryz.prog 31 #[.int .i64 (n:Int)] w fun e w'=>∃v,e= .returned v∧Own w.heap.size w' v (Sim.new n)∧Below w.heap.size w w':=by
 obtain⟨FR,zi,zQ,AW,wy⟩:=info_parts info121;obtain⟨i3,CJ,hz3,hs3,hb3⟩:=info_parts info3;have yI:=qH zi;have xC:=qH zQ;have oG:=qH AW;have Hv:=qH CJ;have Iv:=qH hz3;have vz:=qH hs3;have Az:=qH (show FR.bytes*n≤281474976710656 by rw[wy];omega);have aj:=qH (show i3.bytes*n≤281474976710656 by rw[hb3];omega);have HM:=qH (show n≤maxLen by unfold maxLen;omega);clear zi zQ AW wy CJ hz3 hs3 hb3;have h0:(n:Int)≤4096:=by omega
 have h1:(0:Int)≤(n:Int):=by omega
 go_enter Tryz.func31,Tryz.ntmps31;go_wp2;refine wp_region_held_drew (S:=fun X=>Below w.heap.size w X) (by kernel_rfl) (Below.refl _ _).drew (fun hHeld=>?_);refine tkC 0 ?_;refine tkC 2 ?_;refine rdA (rs:= [1,3]) ?_;refine AllReadyH.cons (o:=⟨some 10,.makeSlice 115 (.tmp 9) (.tmp 9),115,"dev.go:34",#[⟨0,.data⟩,⟨0,.data⟩],none⟩) rfl (fun K hK=>?_) (AllReadyH.cons (o:=⟨some 12,.makeSlice 117 (.tmp 11) (.tmp 11),117,"dev.go:34",#[⟨2,.data⟩,⟨2,.data⟩],none⟩) rfl (fun K hK=>?_) AllReadyH.nil)
 ·refine step_make (by rfl) (.tmp 9) (.tmp 9) 115 (by rfl) 0 121 FR (.agg (Array.replicate 64 (.int .u8 0))) 64 Tryz.underlying115 yI.out xC.out oG.out .i64 .i64 _ _ n (by rfl) (by rfl) rfl rfl Az.out HM.out (Nat.zero_le _) ?_
  intro wF hownF hgrowF;have ac:=hHeld.grown hgrowF (hHeld.size) (fun k hk=>by cases hk);refine hK.out _ _ ?_ (fun _=>?_)
  ·exact ac
  clear hK K hHeld;have hHeld:=ac;clear ac;try simp only[Act.put,zA,zB,zC]
  refine rdA (rs:= [3]) ?_;refine arC (fun K hK=>?_);refine step_make (by rfl) (.tmp 11) (.tmp 11) 117 (by rfl) 0 3 i3 (.int .i64 0) 1 Tryz.underlying117 Hv.out Iv.out vz.out .i64 .i64 _ _ n (by rfl) (by rfl) rfl rfl aj.out HM.out (Nat.zero_le _) ?_;intro wN hownN hgrowN;have ac:=hHeld.grown hgrowN (hHeld.size) (fun k hk=>by cases hk);refine hK.out _ _ ?_ (fun _=>?_)
  ·exact ac
  clear hK K hHeld;have hHeld:=ac;clear ac;try simp only[Act.put,zA,zB,zC]
  refine tkC 4 ?_;refine rdA (rs:= [5]) ?_;refine arC (fun K hK=>?_);go_simp;refine gen_alloc ?_;intro w4 hw4 ap;try (go_wp2_with fail)
  have ac:=hHeld.trans (ap.mono hHeld.size);refine hK.out _ _ ?_ (fun _=>?_)
  ·exact ac
  clear hK K hHeld;have hHeld:=ac;clear ac;try simp only[Act.put,zA,zB,zC]
  refine tkC 6 ?_;refine wpAnyH_done (by kernel_rfl) ?_ _;have HH:=qH hHeld;have b8:=qH hownF;have sC:=qH hownN;have BH:=qH hgrowF;have BC:=qH hgrowN;have eU:=qH hw4;clear hHeld hownF hownN hgrowF hgrowN hw4 ap;go_wp2;go_ret;have hs1:=BH.out.size;have hs2:=BC.out.size;have l1:w.heap.size<wF.heap.size:=(b8.out.lt _ rfl).2;have l2:wF.heap.size<wN.heap.size:=(sC.out.lt _ rfl).2;have hd:w.drew.heap.size=w.heap.size:=rfl;have e4:w4.heap.size=wN.heap.size+1:=by rw[eU.out];simp
  exact⟨_,rfl,new_mk (w:=w) h (by rw[eU.out];exact(own_grownD b8.out BC.out).alloc _) (by rw[eU.out];exact sC.out.alloc _) (by rw[eU.out];exact heap_alloc_new wN _) ⟨Nat.le_refl _,by rw[e4];omega⟩ ⟨by omega,by rw[e4];omega⟩ (by omega) (by omega) (by omega) (by omega) (by rw[e4];omega),HH.out⟩
 ·refine step_make (by rfl) (.tmp 11) (.tmp 11) 117 (by rfl) 0 3 i3 (.int .i64 0) 1 Tryz.underlying117 Hv.out Iv.out vz.out .i64 .i64 _ _ n (by rfl) (by rfl) rfl rfl aj.out HM.out (Nat.zero_le _) ?_
  intro wN hownN hgrowN;have ac:=hHeld.grown hgrowN (hHeld.size) (fun k hk=>by cases hk);refine hK.out _ _ ?_ (fun _=>?_)
  ·exact ac
  clear hK K hHeld;have hHeld:=ac;clear ac;try simp only[Act.put,zA,zB,zC]
  refine rdA (rs:= [1]) ?_;refine arC (fun K hK=>?_);refine step_make (by rfl) (.tmp 9) (.tmp 9) 115 (by rfl) 0 121 FR (.agg (Array.replicate 64 (.int .u8 0))) 64 Tryz.underlying115 yI.out xC.out oG.out .i64 .i64 _ _ n (by rfl) (by rfl) rfl rfl Az.out HM.out (Nat.zero_le _) ?_;intro wF hownF hgrowF;have ac:=hHeld.grown hgrowF (hHeld.size) (fun k hk=>by cases hk);refine hK.out _ _ ?_ (fun _=>?_)
  ·exact ac
  clear hK K hHeld;have hHeld:=ac;clear ac;try simp only[Act.put,zA,zB,zC]
  refine tkC 4 ?_;refine rdA (rs:= [5]) ?_;refine arC (fun K hK=>?_);go_simp;refine gen_alloc ?_;intro w4 hw4 ap;try (go_wp2_with fail)
  have ac:=hHeld.trans (ap.mono hHeld.size);refine hK.out _ _ ?_ (fun _=>?_)
  ·exact ac
  clear hK K hHeld;have hHeld:=ac;clear ac;try simp only[Act.put,zA,zB,zC]
  refine tkC 6 ?_;refine wpAnyH_done (by kernel_rfl) ?_ _;have HH:=qH hHeld;have b8:=qH hownF;have sC:=qH hownN;have BH:=qH hgrowF;have BC:=qH hgrowN;have eU:=qH hw4;clear hHeld hownF hownN hgrowF hgrowN hw4 ap;go_wp2;go_ret;have hs1:=BH.out.size;have hs2:=BC.out.size;have l1:wN.heap.size<wF.heap.size:=(b8.out.lt _ rfl).2;have l2:w.heap.size<wN.heap.size:=(sC.out.lt _ rfl).2;have hd:w.drew.heap.size=w.heap.size:=rfl;have e4:w4.heap.size=wF.heap.size+1:=by rw[eU.out];simp
  exact⟨_,rfl,new_mk (w:=w) h (by rw[eU.out];exact b8.out.alloc _) (by rw[eU.out];exact(own_grownD sC.out BH.out).alloc _) (by rw[eU.out];exact heap_alloc_new wF _) ⟨by omega,by rw[e4];omega⟩ ⟨Nat.le_refl _,by rw[e4];omega⟩ (by omega) (by omega) (by omega) (by omega) (by rw[e4];omega),HH.out⟩
section
variable {A A' D:Nat→Prop} {w w':World} {u v:Value} {l:List UInt8}
theorem RB.lt_{k:Nat}(h:RB w u l)(hl:l≠ [])(hk:u.ownBlock=some k):k<w.heap.size:=by
 obtain⟨a,c,rfl,_,_,h3⟩:=h;rcases h3 with h3|⟨b,off,rfl,hb,_⟩
 ·exact absurd h3 hl
 ·have:b=k:=by simpa [Value.ownBlock] using hk
  omega
def RAd(A:Nat→Prop)(w:World)(u:Value)(l:List UInt8):Prop:=RB w u l∧(l≠ []→∀k,u.ownBlock=some k→¬A k)
theorem RAd.fr(h:RAd A w u l)(hf:Fr D w w')(hD:∀k,D k→A k)(hA:∀k,A' k→A k∨w.heap.size≤k):RAd A' w' u l:=
 ⟨RB.fr h.1 hf (fun hl k hk hd=>h.2 hl k hk (hD k hd)),fun hl k hk ha=>by
  rcases hA k ha with h1|h1
  ·exact h.2 hl k hk h1
  ·have:=RB.lt_ h.1 hl hk;omega⟩
theorem RAd.one(h:RAd A w u l):u.oneCell'=true:=by
 obtain⟨⟨a,c,rfl,_⟩,_⟩:=h;rfl
def RowD(A:Nat→Prop)(w:World)(v:Value)(n:Nat)(xs:List Value):Prop:=
 ∃a c,v= .slice a n c∧n≤c∧c≤maxLen∧(xs= []∨∃b,a=some ⟨b,0,none⟩∧b<w.heap.size∧¬A b∧∀j (h:j<xs.length),w.cell? ⟨b,j,none⟩=some xs[j])
theorem RowD.fr{n:Nat}{xs:List Value}(h:RowD A w v n xs)(hf:Fr D w w')(hD:∀k,D k→A k)(hA:∀k,A' k→A k∨w.heap.size≤k):RowD A' w' v n xs:=by
 obtain⟨a,c,rfl,h1,h2,h3⟩:=h;refine⟨a,c,rfl,h1,h2,?_⟩;rcases h3 with h3|⟨b,rfl,hb,hn,hc⟩
 ·exact .inl h3
 ·exact .inr ⟨b,rfl,Nat.lt_of_lt_of_le hb hf.size,fun ha=>by rcases hA b ha with h4|h4;exact hn h4;omega,fun j hj=>(World.cell?_of_block (a:=⟨b,j,none⟩) (hf.block b hb (fun hd=>hn (hD b hd)))).trans (hc j hj)⟩
theorem RowD.own{base:Nat}{e:TypeId}{size n:Nat}{xs:List Value}(h:w.ownsRow base e size v n xs)(hA:∀k,base≤k→k<w.heap.size→¬A k):RowD A w v n xs:=by
 rcases h.2 with ⟨rfl,h0⟩|⟨g,cap,cur,rfl,hb,hg,hnc,hcm,_⟩
 ·subst h0
  have hl:=h.1;exact⟨none,0,rfl,Nat.le_refl _,Nat.zero_le _,.inl (List.eq_nil_of_length_eq_zero (by simpa using hl))⟩
 ·have hlt:=(h.lt g rfl).2
  refine⟨_,cap,rfl,hnc,hcm,.inr ⟨g,rfl,hlt,hA g hb hlt,fun j hj=>?_⟩⟩;have:=h.cells (g:=g) rfl j xs[j] (List.getElem?_eq_getElem hj);rw[Addr.add_lit] at this
  simpa using this
theorem RowD.src{n size:Nat}{xs:List Value}(h:RowD A w v n xs)(hl:xs.length=n*size)(h0:0<size){tx e':TypeId}(hk:Tryz.prog.underlying tx=some (.slice e'))(h1:∀x∈xs,x.oneCell'=true):Src Tryz.prog size tx v n xs w:=by
 obtain⟨a,c,rfl,_,_,h3⟩:=h;rcases h3 with h3|⟨b,rfl,hb,hn,hc⟩
 ·subst h3
  have hn0:n=0:=by
   rcases Nat.eq_zero_or_pos n with h|h
   ·exact h
   ·have:=Nat.mul_pos h h0;simp at hl;omega
  subst hn0
  cases a with
  |none=>exact Src.ofNil _ hk c
  |some p=>exact Src.ofSlice _ hk p 0 c [] (by simp) (fun j u hj=>by simp at hj) (fun x hx=>by cases hx)
 ·refine Src.ofSlice _ hk ⟨b,0,none⟩ n c xs hl (fun j u hj=>?_) h1
  obtain⟨hj',e⟩:=List.getElem?_eq_some_iff.1 hj;rw[Addr.add_lit,Nat.zero_add,hc j hj',e]
def SRd(A:Nat→Prop)(w:World)(v:Value)(F:List (List UInt8)):Prop:=
 ∃qs:List (List UInt8×Value),qs.map (·.1)=F∧RowD A w v F.length (qs.map (·.2))∧∀q∈qs,RAd A w q.2 q.1
def pcsD(ps:List (Wr×Value)):List Value:=(ps.map fun p=> [iv p.1.1,p.2]).flatten
theorem pcs_length(ps:List (Wr×Value)):(pcsD ps).length=ps.length*2:=by
 have:=flat_length (m:=2) (L:=ps.map fun p=> [iv p.1.1,p.2]) (fun x hx=>by obtain⟨p,_,rfl⟩:=List.mem_map.1 hx;rfl);rw[pcsD,this];simp
theorem pcs_get(ps:List (Wr×Value)){j:Nat}(h:j<ps.length):(pcsD ps)[j*2]? =some (iv ps[j].1.1)∧(pcsD ps)[j*2+1]? =some ps[j].2:=by
 have hall:∀x∈ps.map (fun p=> [iv p.1.1,p.2]),x.length=2:=fun x hx=>by obtain⟨p,_,rfl⟩:=List.mem_map.1 hx;rfl
 have h0:=flat_get hall (i:=j) (j:=0) (by simpa using h) (by decide);have h1:=flat_get hall (i:=j) (j:=1) (by simpa using h) (by decide);rw[Nat.add_zero] at h0;exact⟨by rw[pcsD,h0];simp,by rw[pcsD,h1];simp⟩
theorem pcs_append(ps qs:List (Wr×Value)):pcsD (ps++qs)=pcsD ps++pcsD qs:=by simp[pcsD]
def LRd(A:Nat→Prop)(w:World)(v:Value)(L:List Wr):Prop:=
 ∃ps:List (Wr×Value),ps.map (·.1)=L∧RowD A w v L.length (pcsD ps)∧∀p∈ps,RAd A w p.2 p.1.2
theorem pcs_one{ps:List (Wr×Value)}(h:∀p∈ps,RAd A w p.2 p.1.2):∀x∈pcsD ps,x.oneCell'=true:=by
 intro x hx;obtain⟨y,hy,hx⟩:=List.mem_flatten.1 hx;obtain⟨p,hp,rfl⟩:=List.mem_map.1 hy;rcases List.mem_cons.1 hx with rfl|hx
 ·rfl
 ·simp at hx;subst hx;exact(h p hp).one
theorem SRd.fr{F:List (List UInt8)}(h:SRd A w v F)(hf:Fr D w w')(hD:∀k,D k→A k)(hA:∀k,A' k→A k∨w.heap.size≤k):SRd A' w' v F:=by
 obtain⟨qs,h1,h2,h3⟩:=h;exact⟨qs,h1,h2.fr hf hD hA,fun q hq=>(h3 q hq).fr hf hD hA⟩
theorem LRd.fr{L:List Wr}(h:LRd A w v L)(hf:Fr D w w')(hD:∀k,D k→A k)(hA:∀k,A' k→A k∨w.heap.size≤k):LRd A' w' v L:=by
 obtain⟨qs,h1,h2,h3⟩:=h;exact⟨qs,h1,h2.fr hf hD hA,fun q hq=>(h3 q hq).fr hf hD hA⟩
theorem SRd.shape{F:List (List UInt8)}(h:SRd A w v F):∃a c,v= .slice a F.length c∧F.length≤c:=by
 obtain⟨qs,h1,⟨a,c,h2,h3,_⟩,_⟩:=h;exact⟨a,c,h2,h3⟩
theorem LRd.shape{L:List Wr}(h:LRd A w v L):∃a c,v= .slice a L.length c∧L.length≤c:=by
 obtain⟨qs,h1,⟨a,c,h2,h3,_⟩,_⟩:=h;exact⟨a,c,h2,h3⟩
theorem SRd.at_{F:List (List UInt8)}{a:Option Addr}{c i:Nat}(h:SRd A w (.slice a F.length c) F)(hi:i<F.length):∃b u,a=some ⟨b,0,none⟩∧b<w.heap.size∧¬A b∧w.cell? ⟨b,i,none⟩=some u∧RAd A w u (F.getD i []):=by
 obtain⟨qs,rfl,⟨a',c',he,_,_,h2⟩,h3⟩:=h;injection he with he _ _;subst he;have hq:i<qs.length:=by simpa using hi
 rcases h2 with h2|⟨b,rfl,hb,hn,hc⟩
 ·rw[List.map_eq_nil_iff] at h2;subst h2;simp at hq
 ·refine⟨b,qs[i].2,rfl,hb,hn,by have:=hc i (by simpa using hq);simpa using this,?_⟩
  have:=h3 qs[i] (List.getElem_mem hq)
  simpa [List.getD_eq_getElem?_getD,List.getElem?_map,List.getElem?_eq_getElem hq] using this
theorem LRd.at_{L:List Wr}{a:Option Addr}{c i:Nat}(h:LRd A w (.slice a L.length c) L)(hi:i<L.length):∃b u,a=some ⟨b,0,none⟩∧b<w.heap.size∧¬A b∧w.cell? ⟨b,i*2,none⟩=some (iv (wat L i).1)∧w.cell? ⟨b,i*2+1,none⟩=some u∧RAd A w u (wat L i).2:=by
 obtain⟨ps,rfl,⟨a',c',he,_,_,h2⟩,h3⟩:=h;injection he with he _ _;subst he;have hp:i<ps.length:=by simpa using hi
 have hw:wat (ps.map (·.1)) i=ps[i].1:=by rw[wat_in hi];simp
 rw[hw];have hl:=pcs_length ps;rcases h2 with h2|⟨b,rfl,hb,hn,hc⟩
 ·rw[h2] at hl;have h9:(0:Nat)=ps.length*2:=hl;omega
 ·have hg:=pcs_get ps hp
  refine⟨b,ps[i].2,rfl,hb,hn,?_,?_,h3 ps[i] (List.getElem_mem hp)⟩
  ·rw[hc (i*2) (by rw[hl];omega),←hg.1,List.getElem?_eq_getElem]
  ·rw[hc (i*2+1) (by rw[hl];omega),←hg.2,List.getElem?_eq_getElem]
def TRd(A:Nat→Prop)(w:World)(tv:Value)(s:Sim):Prop:=
 ∃(vS vL:Value) (lf cw cf:Int),tv= .agg #[vS,vL,.int .i64 cw,.int .i64 cf,.bool s.fuse.isSome,.int .i64 lf]∧SRd A w vS s.firm∧LRd A w vL s.loose∧∀k,s.fuse=some k→lf=(k:Int)
theorem TRd.fr{s:Sim}(h:TRd A w v s)(hf:Fr D w w')(hD:∀k,D k→A k)(hA:∀k,A' k→A k∨w.heap.size≤k):TRd A' w' v s:=by
 obtain⟨vS,vL,lf,cw,cf,h1,h2,h3,h4⟩:=h;exact⟨vS,vL,lf,cw,cf,h1,h2.fr hf hD hA,h3.fr hf hD hA,h4⟩
theorem TRd.below{s:Sim}(h:TRd A w v s)(hb:Below w.heap.size w w'):TRd A w' v s:=h.fr (D:=fun _=>False) (Fr.of_below hb) (fun _ h=>h.elim) (fun _ h=> .inl h)
theorem SRd.below{F:List (List UInt8)}(h:SRd A w v F)(hb:Below w.heap.size w w'):SRd A w' v F:=h.fr (D:=fun _=>False) (Fr.of_below hb) (fun _ h=>h.elim) (fun _ h=> .inl h)
theorem LRd.below{L:List Wr}(h:LRd A w v L)(hb:Below w.heap.size w w'):LRd A w' v L:=h.fr (D:=fun _=>False) (Fr.of_below hb) (fun _ h=>h.elim) (fun _ h=> .inl h)
def MadeD(A:Nat→Prop)(w:World)(s:Sim)(e:Ending)(w':World):Prop:=∃tv,e= .returned tv∧TRd A w' tv s∧Below w.heap.size w w'
def MadeD2(A:Nat→Prop)(w:World)(s:Sim)(r:Value)(e:Ending)(w':World):Prop:=∃tv,e= .returned (.tuple #[tv,r])∧TRd A w' tv s∧Below w.heap.size w w'
end
theorem MadeD2.mk{A:Nat→Prop}{w w':World}{s:Sim}{vS vL r:Value}{lf cw cf:Int}{f:Bool}(hS:SRd A w vS s.firm)(hL:LRd A w vL s.loose)(hf:s.fuse.isSome=f)(ce:∀k,s.fuse=some k→lf=(k:Int))(hb:Below w.heap.size w w'):
  MadeD2 A w s r (.returned (.tuple #[.agg #[vS,vL,.int .i64 cw,.int .i64 cf,.bool f,.int .i64 lf],r])) w':=
 ⟨_,rfl,⟨vS,vL,lf,cw,cf,by rw[hf],hS.below hb,hL.below hb,ce⟩,hb⟩
theorem info29:(Tryz.prog.info? 29).map (fun i=>(i.zero,i.size))=some (some (.agg #[.slice none 0 0,.slice none 0 0,.int .i64 0,.int .i64 0,.bool false,.int .i64 0]),6):=by kernel_rfl
theorem info125:(Tryz.prog.info? 125).map (fun i=>(i.zero,i.size,i.bytes))=some (some (.agg #[.int .i64 0,.slice none 0 0]),2,32):=by kernel_rfl
theorem fr_six{D:Nat→Prop}{a w:World}(h:Fr D a w){g:Nat}(hg:D g∨a.heap.size≤g)(v0 v1 v2 v3 v4 v5:Value):
  Fr D a ((((((w.setCell ⟨g,0,none⟩ v0).setCell ⟨g,1,none⟩ v1).setCell ⟨g,2,none⟩ v2).setCell ⟨g,3,none⟩ v3).setCell ⟨g,4,none⟩ v4).setCell ⟨g,5,none⟩ v5):=
 (((((h.setCell (p:=⟨g,0,none⟩) hg v0).setCell (p:=⟨g,1,none⟩) hg v1).setCell (p:=⟨g,2,none⟩) hg v2).setCell (p:=⟨g,3,none⟩) hg v3).setCell (p:=⟨g,4,none⟩) hg v4).setCell (p:=⟨g,5,none⟩) hg v5
theorem blk_six{w:World}{g:Nat}{t:TypeId}{z0 z1 z2 z3 z4 z5:Value}(h:Dv.Blk w g t #[z0,z1,z2,z3,z4,z5])(v0 v1 v2 v3 v4 v5:Value):
  Dv.Blk ((((((w.setCell ⟨g,0,none⟩ v0).setCell ⟨g,1,none⟩ v1).setCell ⟨g,2,none⟩ v2).setCell ⟨g,3,none⟩ v3).setCell ⟨g,4,none⟩ v4).setCell ⟨g,5,none⟩ v5) g t #[v0,v1,v2,v3,v4,v5]:=
 (((((h.set_ 0 v0).set_ 1 v1).set_ 2 v2).set_ 3 v3).set_ 4 v4).set_ 5 v5
theorem six38(v0 v1 v2 v3 v4 v5:Value):(Tryz.prog.info? 29).map (·.size)=some (#[v0,v1,v2,v3,v4,v5]:Array Value).size:=by
 cases h:Tryz.prog.info? 29 with
 |none=>have:=info29;rw[h] at this;cases this
 |some i=>
  have:=info29;rw[h] at this;simp only[Option.map_some,Option.some.injEq,Prod.mk.injEq] at this;rw[Option.map_some,this.2];rfl
theorem LRd.nil_(A:Nat→Prop)(w:World):LRd A w (.slice none 0 0) []:=⟨[],rfl,⟨none,0,rfl,Nat.le_refl _,Nat.zero_le _,.inl rfl⟩,fun p hp=>by cases hp⟩
theorem below2(w:World)(a b:Obj):Below w.heap.size w ((w.alloc a).alloc b):=((Below.refl _ _).alloc (Nat.le_refl _) a).alloc (by simp) b
theorem burn_any{A:Nat→Prop}{w:World}{tv:Value}{s:Sim}(h:TRd A w tv s)(hu:∀k,s.fuse=some k→k≤1000):
  Calls Tryz.prog 83 #[tv] w (MadeD2 A w (if s.goes then s.burnt else s) (.bool s.goes)):=by
 obtain⟨vS,vL,lf,cw,cf,rfl,hS,hL,ce⟩:=h;obtain⟨aS,cS,rfl,_⟩:=hS.shape;obtain⟨aL,cL,rfl,_⟩:=hL.shape;have HS:=qH hS;have HL:=qH hL;clear hS hL
 cases hf:s.fuse with
 |none=>
  have e:s.goes=true:=by simp[Sim.goes,hf]
  have e2:s.burnt=s:=by cases s;simp[Sim.burnt] at *;exact hf.symm▸rfl
  rw[e,e2];have HF:=qH hf;clear e e2 ce hf hu;go_enter Tryz.func83,Tryz.ntmps83;go_wp2;have HB:=qH (show s.fuse.isSome=false by rw[HF.out];rfl);exact bodyPost_ret (v:= .tuple #[.agg #[.slice aS s.firm.length cS,.slice aL s.loose.length cL,.int .i64 cw,.int .i64 cf,.bool false,.int .i64 lf],.bool true]) (by simp[results,Tryz.results83,go_sem]) rfl
   ⟨_,rfl,⟨_,_,lf,cw,cf,by rw[HB.out],HS.out.below (below2 w _ _),HL.out.below (below2 w _ _),fun k hk=>by rw[HF.out] at hk;cases hk⟩,below2 w _ _⟩
 |some k=>
  have FC:=ce k hf;have ex:=hu k hf;subst FC;have HF:=qH hf;have HB:=qH (show s.fuse.isSome=true by rw[hf];rfl)
  cases k with
  |zero=>
   have e:s.goes=false:=by simp[Sim.goes,hf]
   rw[e];clear e ce hf hu;go_enter Tryz.func83,Tryz.ntmps83;go_wp2;exact bodyPost_ret (v:= .tuple #[.agg #[.slice aS s.firm.length cS,.slice aL s.loose.length cL,.int .i64 cw,.int .i64 cf,.bool true,.int .i64 0],.bool false]) (by simp[results,Tryz.results83,go_sem]) rfl
    ⟨_,rfl,⟨_,_,0,cw,cf,by rw[HB.out],HS.out.below (below2 w _ _),HL.out.below (below2 w _ _),fun k hk=>by rw[HF.out] at hk;injection hk with hk;omega⟩,below2 w _ _⟩
  |succ k=>
   have e:s.goes=true:=by simp[Sim.goes,hf]
   rw[e];have hc:((k+1:Nat):Int)=(k:Int)+1:=by omega
   rw[hc];have hz:((k:Int)+1==0)=false:=by simp;omega
   have cE:(0:Int)≤(k:Int):=by omega
   have hk1:(k:Int)≤1000:=by omega
   have ae:=qH (show s.burnt.fuse.isSome=true by simp[Sim.burnt,hf]);have cZ:=qH (show s.burnt.fuse=some k by simp[Sim.burnt,hf]);clear e ce hf hu hc ex;go_enter Tryz.func83,Tryz.ntmps83;go_wp2;refine bodyPost_ret (v:= .tuple #[.agg #[.slice aS s.firm.length cS,.slice aL s.loose.length cL,.int .i64 cw,.int .i64 cf,.bool true,.int .i64 (k:Int)],.bool true]) (by simp[results,Tryz.results83,go_sem]) rfl ?_;refine MadeD2.mk (s:=s.burnt) (lf:=(k:Int)) HS.out HL.out ae.out (fun j hj=>by rw[cZ.out] at hj;injection hj with hj;omega) ?_
   repeat (first|exact Below.refl _ _|(refine Below.alloc ?_ (by first|(simp;done)|(simp;omega)|(simp[World.setCell];done)|(simp[World.setCell];omega)) _)|(refine Below.setCell ?_ (by first|(simp;done)|(simp;omega)) _))
def fillP(b:List UInt8)(k:Nat):List UInt8:=b.take k++List.replicate (64-k) 0
theorem fillP_length{b:List UInt8}{k:Nat}(h:k≤b.length)(h2:b.length≤64):(fillP b k).length=64:=by simp[fillP];omega
theorem fillP_zero(b:List UInt8):fillP b 0=List.replicate 64 0:=by simp[fillP]
theorem fillP_all(b:List UInt8):fillP b b.length=pad b:=by simp[fillP,pad]
theorem fillP_set{b:List UInt8}{k:Nat}(h:k<b.length)(h2:b.length≤64):(bvs (fillP b k)).set k (bv b[k])=bvs (fillP b (k+1)):=by
 have e:(fillP b k).set k b[k]=fillP b (k+1):=by
  unfold fillP;have hk:(b.take k).length=k:=by simp;omega
  rw[show 64-k=(64-(k+1))+1 from by omega,List.replicate_succ,List.set_append,if_neg (by omega),hk,Nat.sub_self,List.set_cons_zero,List.take_succ_eq_append_getElem h,List.append_assoc];rfl
 rw[←e];simp[bvs,List.map_set]
theorem refwrite_no{A:Nat→Prop}{w:World}{tv bvv:Value}{s:Sim}(i:Int)(b:List UInt8)(h:TRd A w tv s)(hb:RB w bvv b)(hh:s.has i=false∨(s.has i=true∧64<b.length)):
  Calls Tryz.prog 80 #[tv,.int .i64 i,bvv] w (MadeD2 A w (s.write i b) (.int .i64 (s.wrote i b))):=by
 obtain⟨vS,vL,lf,cw,cf,rfl,hS,hL,ce⟩:=h;obtain⟨aS,cS,rfl,xa⟩:=hS.shape;obtain⟨aL,cL,rfl,_⟩:=hL.shape;obtain⟨aB,cB,rfl,_,hcB,_⟩:=hb;unfold maxLen at hcB;have HS:=qH hS;have HL:=qH hL;have oo:=qH ce;clear hS hL ce;obtain⟨f0,ew⟩:∃f0,f0=s.fuse.isSome:=⟨_,rfl⟩
 rw[←ew];have HF:=qH ew.symm;clear ew;obtain⟨m,hm⟩:∃m,m=b.length:=⟨_,rfl⟩
 rcases hh with hh|⟨hh,hl⟩
 ·have e1:s.write i b=s:=by simp[Sim.write,hh]
  have e2:s.wrote i b=20:=by simp[Sim.wrote,hh]
  rw[e1,e2,←hm];have gU:(decide (i<0)=true)∨(decide (i<0)=false∧(s.firm.length:Int)≤i):=by
   by_cases h1:i<0
   ·exact .inl (by simpa using h1)
   ·refine .inr ⟨by simpa using h1,?_⟩
    rcases Int.lt_or_le i s.firm.length with h|h
    ·have:=Sim.has_iff.2 ⟨show 0≤i by omega,h⟩
     rw[hh] at this;cases this
    ·exact h
  clear e1 e2 hh hm;rcases gU with h1|⟨h1,h2⟩
  all_goals
   go_enter Tryz.func80,Tryz.ntmps80;go_wp2;exact bodyPost_ret (v:= .tuple #[.agg #[.slice aS s.firm.length cS,.slice aL s.loose.length cL,.int .i64 cw,.int .i64 cf,.bool f0,.int .i64 lf],.int .i64 20]) (by simp[results,Tryz.results80,go_sem]) rfl
    (MadeD2.mk HS.out HL.out HF.out oo.out (below2 w _ _))
 ·have e1:s.write i b=s:=by simp[Sim.write];omega
  have e2:s.wrote i b=3:=by simp[Sim.wrote,hh,hl]
  rw[e1,e2,←hm];have hi:=Sim.has_iff.1 hh;have h1:decide (i<0)=false:=by simp;omega
  have h2:¬(s.firm.length:Int)≤i:=by omega
  have h3:64<(m:Int):=by omega
  clear e1 e2 hh hm hl hi;go_enter Tryz.func80,Tryz.ntmps80;go_wp2;exact bodyPost_ret (v:= .tuple #[.agg #[.slice aS s.firm.length cS,.slice aL s.loose.length cL,.int .i64 cw,.int .i64 cf,.bool f0,.int .i64 lf],.int .i64 3]) (by simp[results,Tryz.results80,go_sem]) rfl
   (MadeD2.mk HS.out HL.out HF.out oo.out (below2 w _ _))
theorem refwrite_yes{A:Nat→Prop}{w:World}{tv bvv:Value}{s:Sim}(i:Nat)(b:List UInt8)(h:TRd A w tv s)(hok:OK s)(hA:∀k,A k→k<w.heap.size)(ng:s.loose.length<100000)(hb:RB w bvv b)(hi:i<s.firm.length)(hl:b.length≤64):
  Calls Tryz.prog 80 #[tv,.int .i64 (i:Int),bvv] w (MadeD2 A w (s.write i b) (.int .i64 0)):=by
 have HT:=qH h;have jD:=qH hb;obtain⟨vS,vL,lf,cw,cf,rfl,hS,hL,ce⟩:=h;obtain⟨aS,cS,rfl,xa⟩:=hS.shape;obtain⟨aL,cL,rfl,_⟩:=hL.shape;obtain⟨aB,cB,rfl,DJ,hcB,IC⟩:=hb;unfold maxLen at hcB;have HO:=qH hok;have HA:=qH hA;obtain⟨m,hm⟩:∃m,m=b.length:=⟨_,rfl⟩
 rw[←hm] at DJ hl jD⊢;have HM:=qH hm;have aj:=qH IC;have hh:s.has i=true:=Sim.has_iff.2 ⟨by omega,by omega⟩;have HH:=qH hh;clear hS hL ce hok hA hm IC hh;obtain⟨f0,ew⟩:∃f0,f0=s.fuse.isSome:=⟨_,rfl⟩
 rw[←ew] at HT⊢;clear ew;have h1:decide ((i:Int)<0)=false:=by simp
 have h2:¬(s.firm.length:Int)≤(i:Int):=by omega
 have h3:(m:Int)≤64:=by omega
 go_enter Tryz.func80,Tryz.ntmps80;go_wp2_with fail
 go_at_call 83;refine(burn_any (A:=fun k=>A k∨k=w.heap.size∨k=w.heap.size+1) ((HT.out.fr (D:=fun _=>False) (Fr.of_below (below2 w _ _)) (fun _ h=>h.elim) (fun k hk=>by
  rcases hk with hk|hk|hk
  ·exact .inl hk
  ·exact .inr (by omega)
  ·exact .inr (by omega)))) HO.out.u).mono ?_
 rintro e w1⟨BD,rfl,ht,hb⟩;obtain⟨W1,hW1⟩:∃W1,W1=((w.alloc (Obj.cells #[Value.slice aS s.firm.length cS,Value.slice aL s.loose.length cL,Value.int IntKind.i64 cw,Value.int IntKind.i64 cf,Value.bool f0,Value.int IntKind.i64 lf] 29)).alloc (Obj.cells #[Value.slice none 0 0,Value.slice none 0 0,Value.int IntKind.i64 0,Value.int IntKind.i64 0,Value.bool false,Value.int IntKind.i64 0] 29)):=⟨_,rfl⟩
 rw[←hW1] at hb;have hb2:Dv.Blk W1 (w.heap.size+1) 29 #[Value.slice none 0 0,Value.slice none 0 0,Value.int IntKind.i64 0,Value.int IntKind.i64 0,Value.bool false,Value.int IntKind.i64 0]:=by rw[hW1];exact heap_alloc2_new w _ _
 have hs1:W1.heap.size=w.heap.size+1+1:=by rw[hW1];simp
 have ai:Below w.heap.size w w1:=by
  have:Below w.heap.size w W1:=by rw[hW1];exact below2 w _ _
  exact this.trans (hb.mono (by omega))
 obtain⟨g2,hg2⟩:∃g2,g2=w.heap.size:=⟨_,rfl⟩
 rw[←hg2] at hb2 hs1 ht⊢;have hs2:g2+1+1≤w1.heap.size:=by have:=hb.size;omega
 have ae:=qH (hb2.below hb (by omega));have aw:=qH ai;have HG2:=qH hg2;have dX:=qH hs2;clear hW1 hb hb2 hs1 ai hg2 hs2
 cases hg:s.goes with
 |false=>
  rw[hg] at ht;have e:s.write i b=s:=by simp[Sim.write,hg]
  obtain⟨F8,Dz,lf1,dG,eg,rfl,hS1,me,iz⟩:=id ht;obtain⟨dI,dH,rfl,_⟩:=hS1.shape;obtain⟨eI,eH,rfl,_⟩:=me.shape;have d0:w1.cell? ⟨g2+1,0,none⟩=some (.slice none 0 0):=ae.out.cell 0;have d1:w1.cell? ⟨g2+1,1,none⟩=some (.slice none 0 0):=ae.out.cell 1;have d2:w1.cell? ⟨g2+1,2,none⟩=some (.int .i64 0):=ae.out.cell 2;have d3:w1.cell? ⟨g2+1,3,none⟩=some (.int .i64 0):=ae.out.cell 3;have d4:w1.cell? ⟨g2+1,4,none⟩=some (.bool false):=ae.out.cell 4;have d5:w1.cell? ⟨g2+1,5,none⟩=some (.int .i64 0):=ae.out.cell 5;have df:∀i,w1.frozen? ⟨g2+1,i,none⟩=false:=ae.out.frozen;have hlt:=ae.out.lt;have ko:=qH ht;have HE:=qH e;clear ht hg e hS1 me iz;obtain⟨f1,cJ⟩:∃f1,f1=s.fuse.isSome:=⟨_,rfl⟩
  simp only[Bool.false_eq_true,if_false] at ko⊢;rw[←cJ] at ko⊢;clear cJ;go_wp2;have hblk:=(blk_six ae.out (.slice dI s.firm.length dH) (.slice eI s.loose.length eH) (.int .i64 dG) (.int .i64 eg) (.bool f1) (.int .i64 lf1)).alloc (Obj.cells #[Value.slice dI s.firm.length dH,Value.slice eI s.loose.length eH,Value.int IntKind.i64 dG,Value.int IntKind.i64 eg,Value.bool f1,Value.int IntKind.i64 lf1] 29);have ax:=(fr_six (Fr.refl (fun k=>k=g2+1) w1) (.inl rfl) (.slice dI s.firm.length dH) (.slice eI s.loose.length eH) (.int .i64 dG) (.int .i64 eg) (.bool f1) (.int .i64 lf1)).alloc (Obj.cells #[Value.slice dI s.firm.length dH,Value.slice eI s.loose.length eH,Value.int IntKind.i64 dG,Value.int IntKind.i64 eg,Value.bool f1,Value.int IntKind.i64 lf1] 29);refine bodyPost_ret (v:= .tuple #[.agg #[.slice dI s.firm.length dH,.slice eI s.loose.length eH,.int .i64 dG,.int .i64 eg,.bool f1,.int .i64 lf1],.int .i64 0]) (by
   simp[results,Tryz.results80,go_sem,hblk.cell 0,hblk.cell 1,hblk.cell 2,hblk.cell 3,hblk.cell 4,hblk.cell 5]) rfl ?_
  rw[HE.out];exact⟨_,rfl,ko.out.fr ax (fun k hk=> .inr (.inr hk)) (fun k hk=> .inl (.inl hk)),aw.out.trans (ax.below (fun k hk=>by have:=HG2.out;omega) aw.out.size)⟩
 |true=>
  rw[hg] at ht;have e:s.write i b=s.put i b:=by
   unfold Sim.write;rw[HH.out,hg,←HM.out,decide_eq_true hl];rfl
  have ht1:TRd (fun k=>A k∨k=g2∨k=g2+1) w1 BD s.burnt:=ht;obtain⟨F8,Dz,lf1,dG,eg,rfl,hS1,me,iz⟩:=id ht1;obtain⟨dI,dH,rfl,_⟩:=hS1.shape;obtain⟨eI,eH,rfl,_⟩:=me.shape;have jy:=qH (show SRd (fun k=>A k∨k=g2∨k=g2+1) w1 (.slice dI s.firm.length dH) s.firm from hS1);have GR:=qH (show LRd (fun k=>A k∨k=g2∨k=g2+1) w1 (.slice eI s.loose.length eH) s.loose from me);have HE:=qH e;have oo:=qH iz;have e1:s.burnt.firm.length=s.firm.length:=rfl;have e2:s.burnt.loose.length=s.loose.length:=rfl;obtain⟨f1,cJ⟩:∃f1,f1=s.burnt.fuse.isSome:=⟨_,rfl⟩
  rw[e1,e2,←cJ];have uB:=qH cJ;have Ii:s.loose.length≤100000:=Nat.le_of_lt ng;clear ht ht1 hg e hS1 me iz cJ e1 e2;obtain⟨i5,hi5,j0,hs5,aq⟩:=info_parts info5;have jK:=qH hi5;have lL:=qH j0;have iP:=qH hs5;have ay:=qH (show i5.bytes*64≤281474976710656 by rw[aq];omega);have BZ:=qH (show 64≤maxLen by unfold maxLen;omega);clear hi5 j0 hs5 aq;go_wp2_with (refine wpList_make_full _ rfl (.const (.int .i64 64)) (.const (.int .i64 64)) 46 rfl 0 5 i5 (.int .u8 0) 1 Tryz.underlying46 jK.out lL.out iP.out .i64 .i64 _ _ 64 rfl rfl rfl rfl ay.out BZ.out (Nat.zero_le _) ?_)
  intro w4 hownx hgrow;obtain⟨g3,hg3⟩:∃g3,g3=w1.heap.size:=⟨_,rfl⟩
  rw[←hg3] at hownx⊢;have hx0:(madeCells #[Value.int .u8 0] 64).toList=bvs (fillP b 0):=by
   rw[toList_madeCells_one,fillP_zero];simp[bvs,bv]
  rw[hx0] at hownx;have hb3:Dv.Blk w4 g3 29 #[Value.slice dI s.firm.length dH,Value.slice eI s.loose.length eH,Value.int IntKind.i64 dG,Value.int IntKind.i64 eg,Value.bool f1,Value.int IntKind.i64 lf1]:=by
   have h9:Dv.Blk (w1.alloc (Obj.cells #[Value.slice dI s.firm.length dH,Value.slice eI s.loose.length eH,Value.int IntKind.i64 dG,Value.int IntKind.i64 eg,Value.bool f1,Value.int IntKind.i64 lf1] 29)) g3 29 #[Value.slice dI s.firm.length dH,Value.slice eI s.loose.length eH,Value.int IntKind.i64 dG,Value.int IntKind.i64 eg,Value.bool f1,Value.int IntKind.i64 lf1]:=by rw[hg3];exact heap_alloc_new w1 _
   exact h9.same (hgrow.block g3 h9.lt (by simp))
  have nP:Below w1.heap.size w1 w4:=((Below.refl _ _).alloc (Nat.le_refl _) _).grown hgrow (by simp) (fun k hk=>by cases hk);have hgx:=(hownx.lt (g3+1) rfl).2;have F3:=qH hb3;have iH:=qH nP;have mR:=qH hg3;have Lv:=qH hownx;have zH:=qH hgx;clear hownx hgrow hx0 hb3 nP hg3 hgx;go_wp2
  go_loopw [11] (fun q wr=>∃k:Nat,k≤m∧q= .int .i64 k∧wr.ownsRow 0 5 1 (.slice (some ⟨g3+1,0,none⟩) 64 64) 64 (bvs (fillP b k))∧Below (g3+1) w4 wr) (fun q _=>m-(intOf q).toNat)
  case atStart=>exact⟨0,Nat.zero_le _,rfl,Lv.out,Below.refl _ _⟩
  case round=>
   obtain⟨k,hk,rfl,hown,ad⟩:=hrel;by_cases hlt:k<m
   ·have nk:k<b.length:=by rw[←HM.out];exact hlt
    obtain⟨bb,off,hA,hbb,hc⟩:∃bb off,aB=some ⟨bb,off,none⟩∧bb<w.heap.size∧∀j (h:j<b.length),w.cell? ⟨bb,off+j,none⟩=some (bv b[j]):=by
     rcases aj.out with h9|⟨bb,off,h4,h5,h6⟩
     ·rw[h9] at nk;simp at nk
     ·exact⟨bb,off,h4,h5,h6⟩
    subst hA;have cP:=hc k nk;have hbr:Below w.heap.size w wr:=(aw.out.trans (iH.out.mono aw.out.size)).trans (ad.mono (by have:=HG2.out;have:=mR.out;have:=dX.out;omega));have hcr:=(hbr.cell (p:=⟨bb,off+k,none⟩) hbb).trans cP;have ck:=fillP_length (b:=b) (k:=k) (by omega) (by rw[←HM.out];exact hl);have EU:=hown.cellAt k (by omega);rw[List.getElem?_eq_getElem (show k<(bvs (fillP b k)).length by rw[bvs_length,ck];omega)] at EU;obtain⟨y,hy⟩:∃y,wr.cell? ⟨g3+1,k,none⟩=some y:=⟨_,EU⟩
    have MP:=hown.frozenAt k;have bH:=fillP_set nk (by rw[←HM.out];exact hl);unfold bv at hcr;generalize b[k]=z at hcr bH;have gu:=qH bH;have xY:=qH hown;have tz:=qH ad;have cE:(0:Int)≤(k:Int):=by omega
    have hk1:(k:Int)<(m:Int):=by omega
    have hk2:(k:Int)<64:=by omega
    clear hown ad hc cP hbr EU bH nk ck;go_wp2;go_roundw
    case rel=>
     refine⟨k+1,by omega,by go_num,?_,tz.out.setCell (p:=⟨g3+1,k,none⟩) (Nat.le_refl _) _⟩;have h9:=(xY.out.stored k (bv z)).1;rw[gu.out] at h9;exact h9
    case measure=>simp[intOf];omega
   ·obtain rfl:k=m:=by omega
    have hbr:Below w1.heap.size w1 wr:=iH.out.trans (ad.mono (by have:=mR.out;omega));have hL2:=GR.out.fr (D:=fun _=>False) (A':=fun k=>(A k∨k=g2∨k=g2+1)∨k=g3) (Fr.of_below hbr) (fun _ h=>h.elim) (fun k hk=>by
     rcases hk with hk|hk
     ·exact .inl hk
     ·exact .inr (by have:=mR.out;omega))
    obtain⟨ps,hp1,hp2,Fm⟩:=hL2;have hsrc:=hp2.src (tx:=27) (e':=125) (size:=2) (by rw[pcs_length];rw[←hp1];simp) (by decide) Tryz.underlying27 (pcs_one Fm);have LE:=qH hp1;have B4:=qH Fm;have cH:=qH hsrc;have jX:=qH hbr;have xY:=qH hown;have eL:=qH (F3.out.below ad (by omega));have bW:=qH (ae.out.below hbr (by have:=dX.out;omega));have hc1:wr.cell? ⟨g3,1,none⟩=some (.slice eI s.loose.length eH):=eL.out.cell 1;have gk:=qH (show g3+1<wr.heap.size by have:=ad.size;have:=zH.out;omega);clear hown ad hbr hp1 hp2 Fm hsrc;go_wp2_with (at_builtin;refine wpList_own rfl (.tmp 49) (.tmp 51) 27 27 rfl wr.heap.size 125 (.agg #[.int .i64 0,.slice none 0 0]) 2 32 Tryz.underlying27 info125 rfl rfl (World.ownsRow_nil _ _ _ _) rfl cH.out (Below.refl wr.heap.size _) (Nat.le_refl _) (by unfold maxLen;omega) (by omega) (Nat.le_refl _) ?_)
    intro vl w5 hownl aK _;have dJ:=qH hownl;have je:=qH aK;clear hc1 hownl aK;go_wp2_with (at_builtin;refine wpList_own rfl (.tmp 53) (.tmp 57) 27 27 rfl wr.heap.size 125 (.agg #[.int .i64 0,.slice none 0 0]) 2 32 Tryz.underlying27 info125 rfl rfl (dJ.out.alloc _) rfl (src_two w5 rfl Tryz.underlying27 125 _ _ rfl rfl) (je.out.alloc je.out.size _) (Nat.le_refl _) (by unfold maxLen;omega) (by omega) (by have:=je.out.size;simp;omega) ?_)
    intro v6 w6 bG bV _;obtain⟨a6,c6,rfl,_⟩:=own_shape bG;have j9:=qH bG;have un:=qH bV;have kq:=qH (eL.out.below bV eL.out.lt);have kd:=qH (bW.out.below bV bW.out.lt);have c0:w6.cell? ⟨g3,0,none⟩=some (.slice dI s.firm.length dH):=kq.out.cell 0;have c1:w6.cell? ⟨g3,1,none⟩=some (.slice eI s.loose.length eH):=kq.out.cell 1;have c2:w6.cell? ⟨g3,2,none⟩=some (.int .i64 dG):=kq.out.cell 2;have c3:w6.cell? ⟨g3,3,none⟩=some (.int .i64 eg):=kq.out.cell 3;have c4:w6.cell? ⟨g3,4,none⟩=some (.bool f1):=kq.out.cell 4;have c5:w6.cell? ⟨g3,5,none⟩=some (.int .i64 lf1):=kq.out.cell 5;have cf:∀i,w6.frozen? ⟨g3,i,none⟩=false:=kq.out.frozen;have d0:w6.cell? ⟨g2+1,0,none⟩=some (.slice none 0 0):=kd.out.cell 0;have d1:w6.cell? ⟨g2+1,1,none⟩=some (.slice none 0 0):=kd.out.cell 1;have d2:w6.cell? ⟨g2+1,2,none⟩=some (.int .i64 0):=kd.out.cell 2;have d3:w6.cell? ⟨g2+1,3,none⟩=some (.int .i64 0):=kd.out.cell 3;have d4:w6.cell? ⟨g2+1,4,none⟩=some (.bool false):=kd.out.cell 4;have d5:w6.cell? ⟨g2+1,5,none⟩=some (.int .i64 0):=kd.out.cell 5;have df:∀i,w6.frozen? ⟨g2+1,i,none⟩=false:=kd.out.frozen;have n1:g3≠g2+1:=by have:=mR.out;have:=dX.out;omega
    clear bG bV;go_wp2;obtain⟨W,hW⟩:∃W,W=((((((((w6.setCell ⟨g3,1,none⟩ (Value.slice a6 (s.loose.length+1) c6)).setCell ⟨g3,2,none⟩ (Value.int IntKind.i64 (wrap64 (dG+1)))).setCell ⟨g2+1,0,none⟩ (Value.slice dI s.firm.length dH)).setCell ⟨g2+1,1,none⟩ (Value.slice a6 (s.loose.length+1) c6)).setCell ⟨g2+1,2,none⟩ (Value.int IntKind.i64 (wrap64 (dG+1)))).setCell ⟨g2+1,3,none⟩ (Value.int IntKind.i64 eg)).setCell ⟨g2+1,4,none⟩ (Value.bool f1)).setCell ⟨g2+1,5,none⟩ (Value.int IntKind.i64 lf1)):=⟨_,rfl⟩
    rw[←hW];have hblk:Dv.Blk W (g2+1) 29 #[.slice dI s.firm.length dH,.slice a6 (s.loose.length+1) c6,.int .i64 (wrap64 (dG+1)),.int .i64 eg,.bool f1,.int .i64 lf1]:=by
     rw[hW];exact blk_six ((kd.out.far (p:=⟨g3,1,none⟩) (fun e=>n1 e.symm) _).far (p:=⟨g3,2,none⟩) (fun e=>n1 e.symm) _) _ _ _ _ _ _
    refine bodyPost_ret (v:= .tuple #[.agg #[.slice dI s.firm.length dH,.slice a6 (s.loose.length+1) c6,.int .i64 (wrap64 (dG+1)),.int .i64 eg,.bool f1,.int .i64 lf1],.int .i64 0]) (by
     have e0:W.cell? ⟨g2+1,0,none⟩=some (.slice dI s.firm.length dH):=hblk.cell 0;have e1:W.cell? ⟨g2+1,1,none⟩=some (.slice a6 (s.loose.length+1) c6):=hblk.cell 1;have e2:W.cell? ⟨g2+1,2,none⟩=some (.int .i64 (wrap64 (dG+1))):=hblk.cell 2;have e3:W.cell? ⟨g2+1,3,none⟩=some (.int .i64 eg):=hblk.cell 3;have e4:W.cell? ⟨g2+1,4,none⟩=some (.bool f1):=hblk.cell 4;have e5:W.cell? ⟨g2+1,5,none⟩=some (.int .i64 lf1):=hblk.cell 5;simp[results,Tryz.results80,go_sem,e0,e1,e2,e3,e4,e5]) rfl ?_
    rw[HE.out];have q1:=HG2.out;have q2:=mR.out;have q3:=dX.out;have q4:=gk.out;have ax:∀(D:Nat→Prop) (a:World),Fr D a w6→(D g3∨a.heap.size≤g3)→(D (g2+1)∨a.heap.size≤g2+1)→Fr D a W:=by
     intro D a h0 h1 h2;rw[hW];exact fr_six ((h0.setCell (p:=⟨g3,1,none⟩) h1 _).setCell (p:=⟨g3,2,none⟩) h1 _) h2 _ _ _ _ _ _
    have EB:Below w1.heap.size w1 w6:=jX.out.trans (un.out.mono jX.out.size);have tJ:Fr (fun k=>k=g2+1) w1 W:=ax _ _ (Fr.of_below EB) (.inr (by omega)) (.inl rfl);have LL:Fr (fun k=>k=g3∨k=g2+1) wr W:=ax _ _ (Fr.of_below un.out) (.inl (.inl rfl)) (.inl (.inr rfl));have qZ:Fr (fun k=>k=g3∨k=g2+1) w6 W:=ax _ _ (Fr.refl _ _) (.inl (.inl rfl)) (.inl (.inr rfl));have hbW:Below w.heap.size w W:=aw.out.trans (tJ.below (fun k hk=>by omega) aw.out.size);have pw:=jy.out.fr (A':=A) tJ (fun k hk=> .inr (.inr hk)) (fun k hk=> .inl (.inl hk));have hrow:W.ownsRow wr.heap.size 125 2 (.slice a6 (s.loose.length+1) c6) (s.loose.length+1) (pcsD ps++ [.int .i64 (i:Int),.slice (some ⟨g3+1,0,none⟩) 64 64]):=
     own_same j9.out (fun k hk=>by
      have h9:=j9.out.lt k hk;exact qZ.block k h9.2 (fun hd=>by rcases hd with hd|hd <;>omega))
    have sy:=own_below xY.out un.out;have LX:W.ownsRow 0 5 1 (.slice (some ⟨g3+1,0,none⟩) 64 64) 64 (bvs (pad b)):=by
     have e:fillP b k=pad b:=by rw[HM.out];exact fillP_all b
     rw[e] at sy;exact own_same sy (fun j hj=>by
      have h9:=sy.lt j hj;have h8:g3+1=j:=by simpa [Value.ownBlock] using hj
      exact qZ.block j h9.2 (fun hd=>by rcases hd with hd|hd <;>omega))
    have hpl:(pad b).length=64:=pad_length (by rw[←HM.out];exact hl);have DX:RAd A W (.slice (some ⟨g3+1,0,none⟩) 64 64) (pad b):=by
     refine⟨RB.own (base:=0) (e:=5) (by rw[hpl];exact LX),fun _ j hj ha=>?_⟩;have h8:g3+1=j:=by simpa [Value.ownBlock] using hj
     have:=HA.out _ ha;omega
    refine⟨_,rfl,⟨.slice dI s.firm.length dH,.slice a6 (s.loose.length+1) c6,lf1,wrap64 (dG+1),eg,?_,pw,?_,oo.out⟩,hbW⟩
    ·rw[uB.out]
     rfl
    ·refine⟨ps++ [((i,pad b),.slice (some ⟨g3+1,0,none⟩) 64 64)],?_,?_,fun q hq=>?_⟩
     ·rw[List.map_append,LE.out]
      rfl
     ·have e9:(s.put i b).loose.length=s.loose.length+1:=by simp[Sim.put]
      rw[pcs_append,e9];exact RowD.own (A:=A) hrow (fun k hk _ ha=>by have:=HA.out k ha;omega)
     ·rcases List.mem_append.1 hq with hq|hq
      ·exact(B4.out q hq).fr LL (fun k hk=>by rcases hk with hk|hk;exact .inr hk;exact .inl (.inr (.inr hk))) (fun k hk=> .inl (.inl (.inl hk)))
      ·simp at hq
       subst hq;exact DX
theorem refwrite_any{A:Nat→Prop}{w:World}{tv bvv:Value}{s:Sim}(i:Int)(b:List UInt8)(h:TRd A w tv s)(hok:OK s)(hA:∀k,A k→k<w.heap.size)(ng:s.loose.length<100000)(hb:RB w bvv b):
  Calls Tryz.prog 80 #[tv,.int .i64 i,bvv] w (MadeD2 A w (s.write i b) (.int .i64 (s.wrote i b))):=by
 cases hh:s.has i with
 |false=>exact refwrite_no i b h hb (.inl hh)
 |true=>
  by_cases hl:b.length≤64
  ·have hi:=Sim.has_iff.1 hh
   obtain⟨k,rfl⟩:∃k:Nat,i=(k:Int):=⟨i.toNat,by omega⟩
   have e:s.wrote k b=0:=by unfold Sim.wrote;rw[hh,if_pos rfl,if_neg (by omega)]
   rw[e];exact refwrite_yes k b h hok hA ng hb (by omega) hl
  ·exact refwrite_no i b h hb (.inr ⟨hh,by omega⟩)
abbrev KW(w:World)(v:Value)(K:List Bool):Prop:=KB (fun _=>False) w v K
theorem KB.at_{D:Nat→Prop}{w:World}{AK:Option Addr}{cK nK k:Nat}{K:List Bool}(h:KB D w (.slice AK nK cK) K)(hn:nK=K.length):
  (K.getD k false=false∧(¬k<nK∨(k<nK∧∃b off,AK=some ⟨b,off,none⟩∧b<w.heap.size∧w.cell? ⟨b,off+k,none⟩=some (.bool false))))∨
  (K.getD k false=true∧k<nK∧∃b off,AK=some ⟨b,off,none⟩∧b<w.heap.size∧w.cell? ⟨b,off+k,none⟩=some (.bool true)):=by
 subst hn;obtain⟨A',c',he,h1⟩:=h;injection he with he _ _;by_cases hkn:k<K.length
 ·have e:K.getD k false=K[k]:=by rw[List.getD_eq_getElem?_getD,List.getElem?_eq_getElem hkn];rfl
  rcases h1 with h1|⟨b,off,h1,hb,_,hc⟩
  ·rw[h1] at hkn;simp at hkn
  ·have cP:=hc k hkn
   cases hv:K[k] with
   |false=>rw[hv] at cP;exact .inl ⟨by rw[e,hv],.inr ⟨hkn,b,off,by rw[he,h1],hb,cP⟩⟩
   |true=>rw[hv] at cP;exact .inr ⟨by rw[e,hv],hkn,b,off,by rw[he,h1],hb,cP⟩
 ·exact .inl ⟨by rw[List.getD_eq_getElem?_getD,List.getElem?_eq_none (by omega)];rfl,.inl hkn⟩
def Und(A:Nat→Prop)(w:World)(B:Nat)(wr:World)(v:Value)(F:List (List UInt8)):Prop:=
 ∃qs:List (List UInt8×Value),qs.map (·.1)=F∧wr.ownsRow B 46 1 v F.length (qs.map (·.2))∧∀q∈qs,RAd A w q.2 q.1
theorem Und.set_{A:Nat→Prop}{w wr:World}{B g n c i:Nat}{F:List (List UInt8)}{u:Value}{l:List UInt8}(h:Und A w B wr (.slice (some ⟨g,0,none⟩) n c) F)(hn:n=F.length)(hu:RAd A w u l):
  Und A w B (wr.setCell ⟨g,i,none⟩ u) (.slice (some ⟨g,0,none⟩) n c) (F.set i l):=by
 subst hn;obtain⟨qs,rfl,h2,h3⟩:=h;refine⟨qs.set i (l,u),by rw[List.map_set],?_,fun q hq=>?_⟩
 ·have:=(h2.stored i u).1
  rw[List.length_set,List.map_set];exact this
 ·rcases List.mem_or_eq_of_mem_set hq with hq|rfl
  ·exact h3 q hq
  ·exact hu
theorem Und.sr{A A':Nat→Prop}{w wr:World}{B:Nat}{v:Value}{F:List (List UInt8)}(h:Und A w B wr v F)(hb:Below w.heap.size w wr)(hA:∀k,A' k→A k∨w.heap.size≤k)(hB:∀k,A' k→k<B):SRd A' wr v F:=by
 obtain⟨qs,h1,h2,h3⟩:=h;exact⟨qs,h1,RowD.own (A:=A') h2 (fun k hk _ ha=>by have:=hB k ha;omega),fun q hq=>(h3 q hq).fr (D:=fun _=>False) (Fr.of_below hb) (fun _ h=>h.elim) hA⟩
theorem refcrash_any{A:Nat→Prop}{w:World}{tv kv:Value}{s:Sim}(K:List Bool)(h:TRd A w tv s)(hok:OK s)(hA:∀k,A k→k<w.heap.size)(hK:KW w kv K):
  Calls Tryz.prog 22 #[tv,kv] w (MadeD A w (s.crash K)):=by
 have C4:=qH hK;obtain⟨AK,cK,rfl,_⟩:=hK;obtain⟨nK,CW⟩:∃nK,nK=K.length:=⟨_,rfl⟩
 rw[←CW] at C4⊢;have JU:=qH CW;obtain⟨vS,vL,lf,cw,cf,rfl,hS,hL,ce⟩:=h;obtain⟨aS,cS,rfl,hc⟩:=hS.shape;obtain⟨aL,cL,rfl,_⟩:=hL.shape;have Ii:s.loose.length≤100000:=hok.w;have FV:=hok.n;have HS:=qH hS;have HL:=qH hL;have HO:=qH hok;have HA:=qH hA;obtain⟨N,hN⟩:∃N,N=s.firm.length:=⟨_,rfl⟩
 rw[←hN] at hc FV;have HN:=qH hN;clear hS hL ce hok hA CW;rw[←hN];clear hN;obtain⟨f0,ew⟩:∃f0,f0=s.fuse.isSome:=⟨_,rfl⟩
 rw[←ew];clear ew;have oI:∃qs:List (List UInt8×Value),qs.map (·.1)=s.firm∧(∀q∈qs,RAd A w q.2 q.1)∧∀w',Below w.heap.size w w'→Src Tryz.prog 1 26 (.slice aS N cS) N (qs.map (·.2)) w':=by
  obtain⟨qs,h1,h2,h3⟩:=HS.out;refine⟨qs,h1,h3,fun w' hb=>?_⟩;have h4:=h2.fr (D:=fun _=>False) (A':=A) (Fr.of_below hb) (fun _ h=>h.elim) (fun _ h=> .inl h);rw[←HN.out] at h4;refine h4.src (by rw[HN.out,←h1];simp) (by decide) Tryz.underlying26 (fun x hx=>?_);obtain⟨q,hq,rfl⟩:=List.mem_map.1 hx;exact(h3 q hq).one
 obtain⟨qs,hq1,hq2,hsrc⟩:=oI;have B7:=qH hq1;have Bv:=qH hq2;have xA:=qH hsrc;clear hq1 hq2 hsrc;have kG:=qH (show 0+N≤maxLen by unfold maxLen;omega);have kZ:=qH (show(0+N)*24≤140737488355328 by omega);go_enter Tryz.func22,Tryz.ntmps22;go_wp2_with (at_builtin;refine wpList_own rfl (.tmp 7) (.tmp 9) 26 26 rfl (w.heap.size+1+1) 46 (.slice none 0 0) 1 24 Tryz.underlying26 info46 rfl rfl (World.ownsRow_nil _ _ _ _) rfl (xA.out _ (below2 w _ _)) (Below.refl (w.heap.size+1+1) _) (Nat.le_refl _) kG.out kZ.out (by simp) ?_)
 intro vs w2 hown ad _;obtain⟨g2,hg2⟩:∃g2,g2=w.heap.size:=⟨_,rfl⟩
 have hU:Und A w (g2+1+1) w2 vs s.firm:=by
  refine⟨qs,B7.out,?_,Bv.out⟩;rw[←HN.out,hg2];exact hown
 obtain⟨W1,hW1⟩:∃W1,W1=((w.alloc (Obj.cells #[Value.slice aS N cS,Value.slice aL s.loose.length cL,Value.int IntKind.i64 cw,Value.int IntKind.i64 cf,Value.bool f0,Value.int IntKind.i64 lf] 29)).alloc (Obj.cells #[Value.slice none 0 0,Value.slice none 0 0,Value.int IntKind.i64 0,Value.int IntKind.i64 0,Value.bool false,Value.int IntKind.i64 0] 29)):=⟨_,rfl⟩
 rw[←hW1] at ad;have hb1:Dv.Blk W1 g2 29 #[Value.slice aS N cS,Value.slice aL s.loose.length cL,Value.int IntKind.i64 cw,Value.int IntKind.i64 cf,Value.bool f0,Value.int IntKind.i64 lf]:=by rw[hW1,hg2];exact heap_alloc2_old w _ _
 have hb2:Dv.Blk W1 (g2+1) 29 #[Value.slice none 0 0,Value.slice none 0 0,Value.int IntKind.i64 0,Value.int IntKind.i64 0,Value.bool false,Value.int IntKind.i64 0]:=by rw[hW1,hg2];exact heap_alloc2_new w _ _
 have ai:Below w.heap.size w w2:=by
  have:Below w.heap.size w W1:=by rw[hW1];exact below2 w _ _
  exact this.trans (ad.mono (by omega))
 have hs2:g2+1+1≤w2.heap.size:=by
  have h1:=ad.size;have h2:W1.heap.size=w.heap.size+1+1:=by rw[hW1];simp
  omega
 have al:=qH (hb1.below ad (by omega));have ae:=qH (hb2.below ad (by omega));have aw:=qH ai;have HU:=qH hU;have dX:=qH hs2;have bo:=qH (C4.out.fr (Fr.of_below ai) (fun _ _ h=>h));have HG2:=qH hg2;obtain⟨aT,cs,rfl,hcs⟩:=own_shape hown;rw[←hg2];clear hW1 hb1 hb2 ai hU hg2 hown ad hs2;go_wp2
 go_loopw [6] (fun i wr=>∃k:Nat,k≤s.loose.length∧i= .int .i64 k∧Und A w (g2+1+1) wr (.slice aT N cs) (kept s.firm s.loose K k)∧Below (g2+1+1) w2 wr) (fun i _=>s.loose.length-(intOf i).toNat)
 case atStart=>exact⟨0,Nat.zero_le _,rfl,HU.out,Below.refl _ _⟩
 case round=>
  obtain⟨k,hk,rfl,hu,ad⟩:=hrel;have li:=qH (al.out.below ad (by omega));have hc1:wr.cell? ⟨g2,1,none⟩=some (.slice aL s.loose.length cL):=li.out.cell 1;have ai:Below w.heap.size w wr:=aw.out.trans (ad.mono (by have:=HG2.out;omega));have Kp:=qH (C4.out.fr (Fr.of_below ai) (fun _ _ h=>h));have Jt:=qH (HL.out.below ai);have l5:=qH ai;clear ai;by_cases hlt:k<s.loose.length
  ·have gU:=Kp.out.at_ (k:=k) JU.out
   rcases gU with ⟨hv,gU⟩|⟨hv,hkn,bK,oK,hAK,hbK,hcK⟩
   ·have e:kept s.firm s.loose K (k+1)=kept s.firm s.loose K k:=by rw[kept,if_neg (by rw[hv];decide)]
    have HE:=qH e;have Cg:=qH hu;have jX:=qH ad;clear e hv hu ad;rcases gU with hkn|⟨hkn,bK,oK,hAK,hbK,hcK⟩
    ·go_wp2
     go_roundw
     case rel=>exact⟨k+1,by omega,by go_num,by rw[HE.out];exact Cg.out,jX.out⟩
     case measure=>simp[intOf];omega
    ·subst hAK
     go_wp2;go_roundw
     case rel=>exact⟨k+1,by omega,by go_num,by rw[HE.out];exact Cg.out,jX.out⟩
     case measure=>simp[intOf];omega
   ·have hx:=HO.out.wat_ hlt
    obtain⟨bL,uL,Bi,hbL,_,AM,Gf,sM⟩:=Jt.out.at_ hlt;obtain⟨_,Lm,kC,_,_,_,ts,oh⟩:=HL.out.at_ hlt;have BM:Lm=uL:=by
     rw[Bi] at kC;injection kC with kC;injection kC with kC _ _;subst kC;have gp:bL<w.heap.size:=World.block_lt_of_cell? w _ ts;have:=(l5.out.cell (p:=⟨bL,k*2+1,none⟩) gp).trans ts;rw[Gf] at this;injection this with this;exact this.symm
    rw[BM] at oh;have e:kept s.firm s.loose K (k+1)=(kept s.firm s.loose K k).set (wat s.loose k).1 (wat s.loose k).2:=by rw[kept,if_pos hv]
    obtain⟨x,ir⟩:∃x,x=wat s.loose k:=⟨_,rfl⟩
    rw[←ir] at hx AM oh e;have ex:=kept_length s.firm s.loose K k;have I2:x.1<N:=by rw[HN.out];exact hx.1
    have hown:∃gs,aT=some ⟨gs,0,none⟩∧g2+1+1≤gs∧(∃y,wr.cell? ⟨gs,x.1,none⟩=some y)∧wr.frozen? ⟨gs,x.1,none⟩=false:=by
     obtain⟨G4,h1,h2,_⟩:=hu;have Co:(G4.map (·.2)).length=N:=by rw[HN.out,←ex,←h1];simp
     rw[ex,←HN.out] at h2;rcases h2.2 with ⟨_,h0⟩|⟨g,cap,cur,he,hge,_⟩
     ·omega
     ·injection he with he _ he3
      subst he;refine⟨g,rfl,hge,⟨(G4.map (·.2))[x.1]'(by omega),?_⟩,h2.frozenAt _⟩;rw[h2.cellAt x.1 (by omega),List.getElem?_eq_getElem (by omega)]
    obtain⟨gs,xH,lZ,⟨y0,hy0⟩,ax⟩:=hown;subst hAK;subst Bi;subst xH;obtain⟨aV,cV,zy,_,_,_⟩:=id oh.1;obtain⟨nV,vE⟩:∃nV,nV=x.2.length:=⟨_,rfl⟩
    rw[←vE] at zy;subst zy;have HE:=qH e;have Cg:=qH hu;have jX:=qH ad;have uV:=qH oh;have KU:=qH lZ;have hx0:(0:Int)≤((x.1:Nat):Int):=by omega
    have hx1:((x.1:Nat):Int)<(N:Int):=by omega
    have cE:(0:Int)≤(k:Int):=by omega
    have hk1:(k:Int)<(s.loose.length:Int):=by omega
    have lM:=qH ex;unfold iv at AM;clear e hv hu ad oh lZ sM hx ir vE BM ts kC ex I2;go_wp2
    go_region
    all_goals
     go_wp2;go_roundw
     case rel=>
      refine⟨k+1,by omega,by go_num,?_,?_⟩
      ·rw[HE.out]
       have h9:=Cg.out.set_ (i:=x.1) (by rw[lM.out,HN.out]) uV.out;exact h9
      ·exact(jX.out.setCell (p:=⟨gs,x.1,none⟩) KU.out _).trans ⟨rfl,rfl,rfl,Nat.le_refl _,fun _ _=>rfl⟩
     case measure=>simp[intOf];omega
  ·obtain rfl:k=s.loose.length:=by omega
   have bW:=qH (ae.out.below ad (by omega));have ce:s.loose.length=s.loose.length:=rfl;have Bx:SRd (fun k=>A k∨k=g2∨k=g2+1) wr (.slice aT N cs) (s.crash K).firm:=hu.sr l5.out (fun k hk=>by
    have:=HG2.out;rcases hk with hk|hk|hk
    ·exact .inl hk
    ·exact .inr (by omega)
    ·exact .inr (by omega)) (fun k hk=>by
    have:=HG2.out;rcases hk with hk|hk|hk
    ·have:=HA.out k hk;omega
    ·omega
    ·omega)
   have Et:=qH Bx;have jX:=qH ad;have b0:wr.cell? ⟨g2,0,none⟩=some (.slice aS N cS):=li.out.cell 0;have b2:wr.cell? ⟨g2,2,none⟩=some (.int .i64 cw):=li.out.cell 2;have b3:wr.cell? ⟨g2,3,none⟩=some (.int .i64 cf):=li.out.cell 3;have b4:wr.cell? ⟨g2,4,none⟩=some (.bool f0):=li.out.cell 4;have b5:wr.cell? ⟨g2,5,none⟩=some (.int .i64 lf):=li.out.cell 5;have bf:∀i,wr.frozen? ⟨g2,i,none⟩=false:=li.out.frozen;have d0:wr.cell? ⟨g2+1,0,none⟩=some (.slice none 0 0):=bW.out.cell 0;have d1:wr.cell? ⟨g2+1,1,none⟩=some (.slice none 0 0):=bW.out.cell 1;have d2:wr.cell? ⟨g2+1,2,none⟩=some (.int .i64 0):=bW.out.cell 2;have d3:wr.cell? ⟨g2+1,3,none⟩=some (.int .i64 0):=bW.out.cell 3;have d4:wr.cell? ⟨g2+1,4,none⟩=some (.bool false):=bW.out.cell 4;have d5:wr.cell? ⟨g2+1,5,none⟩=some (.int .i64 0):=bW.out.cell 5;have df:∀i,wr.frozen? ⟨g2+1,i,none⟩=false:=bW.out.frozen;clear hu ad ce Bx;go_wp2;refine bodyPost_ret (v:= .agg #[.slice aT N cs,.slice none 0 0,.int .i64 cw,.int .i64 cf,.bool false,.int .i64 0]) (by simp[results,Tryz.results22,go_sem,d0,d1,d2,d3,d4,d5]) rfl ?_;have hg:=HG2.out;have ax:∀(D:Nat→Prop) (_:D g2) (_:D (g2+1)) (u0 u1 u2 u3 v0 v1 v2 v3 v4 v5:Value),Fr D wr ((((((((((wr.setCell ⟨g2,0,none⟩ u0).setCell ⟨g2,1,none⟩ u1).setCell ⟨g2,4,none⟩ u2).setCell ⟨g2,5,none⟩ u3).setCell ⟨g2+1,0,none⟩ v0).setCell ⟨g2+1,1,none⟩ v1).setCell ⟨g2+1,2,none⟩ v2).setCell ⟨g2+1,3,none⟩ v3).setCell ⟨g2+1,4,none⟩ v4).setCell ⟨g2+1,5,none⟩ v5):=
    fun D h1 h2 u0 u1 u2 u3 v0 v1 v2 v3 v4 v5=>((((((((((Fr.refl D wr).setCell (p:=⟨g2,0,none⟩) (.inl h1) u0).setCell (p:=⟨g2,1,none⟩) (.inl h1) u1).setCell (p:=⟨g2,4,none⟩) (.inl h1) u2).setCell (p:=⟨g2,5,none⟩) (.inl h1) u3).setCell (p:=⟨g2+1,0,none⟩) (.inl h2) v0).setCell (p:=⟨g2+1,1,none⟩) (.inl h2) v1).setCell (p:=⟨g2+1,2,none⟩) (.inl h2) v2).setCell (p:=⟨g2+1,3,none⟩) (.inl h2) v3).setCell (p:=⟨g2+1,4,none⟩) (.inl h2) v4).setCell (p:=⟨g2+1,5,none⟩) (.inl h2) v5
   refine⟨_,rfl,⟨_,_,0,_,_,rfl,Et.out.fr (D:=fun k=>k=g2∨k=g2+1) (ax _ (.inl rfl) (.inr rfl) _ _ _ _ _ _ _ _ _ _) (fun k hk=> .inr hk) (fun k hk=> .inl (.inl hk)),LRd.nil_ _ _,fun k hk=>(by cases hk)⟩,?_⟩;refine l5.out.trans ((ax (fun k=>k=g2∨k=g2+1) (.inl rfl) (.inr rfl) _ _ _ _ _ _ _ _ _ _).below (fun k hk=>by rcases hk with rfl|rfl <;>omega) l5.out.size)
def trues(k:Nat):List Value:=List.replicate k (.bool true)
theorem trues_succ(k:Nat):trues (k+1)=trues k++ [.bool true]:=List.replicate_succ'
theorem KB.own{w:World}{base n:Nat}{v:Value}(h:w.ownsRow base 4 1 v n (trues n)):KW w v (List.replicate n true):=by
 rcases h.2 with ⟨rfl,h0⟩|⟨g,cap,cur,rfl,hb,hg,_⟩
 ·subst h0
  exact⟨none,0,rfl,.inl rfl⟩
 ·refine⟨_,cap,by rw[List.length_replicate],.inr ⟨g,0,rfl,(h.lt g rfl).2,fun h=>h,fun j hj=>?_⟩⟩
  rw[List.length_replicate] at hj;rw[Nat.zero_add,h.cellAt j (by omega)];simp[trues,hj]
theorem info4:(Tryz.prog.info? 4).map (fun i=>(i.zero,i.size,i.bytes))=some (some (.bool false),1,1):=by kernel_rfl
theorem refflush_any{A:Nat→Prop}{w:World}{tv:Value}{s:Sim}(h:TRd A w tv s)(hok:OK s)(hA:∀k,A k→k<w.heap.size):
  Calls Tryz.prog 44 #[tv] w (MadeD A w s.flush):=by
 have HT:=qH h;obtain⟨vS,vL,lf,cw,cf,rfl,hS,hL,ce⟩:=h;obtain⟨aS,cS,rfl,hc⟩:=hS.shape;obtain⟨aL,cL,rfl,_⟩:=hL.shape;have HO:=qH hok;have HA:=qH hA;clear hS hL ce hok hA;obtain⟨f0,ew⟩:∃f0,f0=s.fuse.isSome:=⟨_,rfl⟩
 rw[←ew] at HT⊢;clear ew;go_enter Tryz.func44,Tryz.ntmps44;go_wp2_with fail
 go_at_call 83;refine(burn_any (A:=fun k=>A k∨k=w.heap.size∨k=w.heap.size+1) ((HT.out.fr (D:=fun _=>False) (Fr.of_below (below2 w _ _)) (fun _ h=>h.elim) (fun k hk=>by
  rcases hk with hk|hk|hk
  ·exact .inl hk
  ·exact .inr (by omega)
  ·exact .inr (by omega)))) HO.out.u).mono ?_
 rintro e w1⟨BD,rfl,ht,hb⟩;obtain⟨W1,hW1⟩:∃W1,W1=((w.alloc (Obj.cells #[Value.slice aS s.firm.length cS,Value.slice aL s.loose.length cL,Value.int IntKind.i64 cw,Value.int IntKind.i64 cf,Value.bool f0,Value.int IntKind.i64 lf] 29)).alloc (Obj.cells #[Value.slice none 0 0,Value.slice none 0 0,Value.int IntKind.i64 0,Value.int IntKind.i64 0,Value.bool false,Value.int IntKind.i64 0] 29)):=⟨_,rfl⟩
 rw[←hW1] at hb;have hb2:Dv.Blk W1 (w.heap.size+1) 29 #[Value.slice none 0 0,Value.slice none 0 0,Value.int IntKind.i64 0,Value.int IntKind.i64 0,Value.bool false,Value.int IntKind.i64 0]:=by rw[hW1];exact heap_alloc2_new w _ _
 have hs1:W1.heap.size=w.heap.size+1+1:=by rw[hW1];simp
 have ai:Below w.heap.size w w1:=by
  have:Below w.heap.size w W1:=by rw[hW1];exact below2 w _ _
  exact this.trans (hb.mono (by omega))
 obtain⟨g2,hg2⟩:∃g2,g2=w.heap.size:=⟨_,rfl⟩
 rw[←hg2] at hb2 hs1 ht⊢;have hs2:g2+1+1≤w1.heap.size:=by have:=hb.size;omega
 have ae:=qH (hb2.below hb (by omega));have aw:=qH ai;have HG2:=qH hg2;have dX:=qH hs2;clear hW1 hb hb2 hs1 ai hg2 hs2
 cases hg:s.goes with
 |false=>
  rw[hg] at ht;have e:s.flush=s:=by simp[Sim.flush,hg]
  rw[e];obtain⟨F8,Dz,lf1,dG,eg,rfl,hS1,me,iz⟩:=id ht;obtain⟨dI,dH,rfl,_⟩:=hS1.shape;obtain⟨eI,eH,rfl,_⟩:=me.shape;have jy:=qH hS1;have GR:=qH me;have oo:=qH iz;have d0:w1.cell? ⟨g2+1,0,none⟩=some (.slice none 0 0):=ae.out.cell 0;have d1:w1.cell? ⟨g2+1,1,none⟩=some (.slice none 0 0):=ae.out.cell 1;have d2:w1.cell? ⟨g2+1,2,none⟩=some (.int .i64 0):=ae.out.cell 2;have d3:w1.cell? ⟨g2+1,3,none⟩=some (.int .i64 0):=ae.out.cell 3;have d4:w1.cell? ⟨g2+1,4,none⟩=some (.bool false):=ae.out.cell 4;have d5:w1.cell? ⟨g2+1,5,none⟩=some (.int .i64 0):=ae.out.cell 5;have df:∀i,w1.frozen? ⟨g2+1,i,none⟩=false:=ae.out.frozen;have hlt:=ae.out.lt;have ko:=qH ht;have HE:=qH e;clear ht hg e hS1 me iz;obtain⟨f1,cJ⟩:∃f1,f1=s.fuse.isSome:=⟨_,rfl⟩
  simp only[Bool.false_eq_true,if_false] at ko⊢;rw[←cJ] at ko⊢;clear cJ;go_wp2;have hblk:=(blk_six ae.out (.slice dI s.firm.length dH) (.slice eI s.loose.length eH) (.int .i64 dG) (.int .i64 eg) (.bool f1) (.int .i64 lf1)).alloc (Obj.cells #[Value.slice dI s.firm.length dH,Value.slice eI s.loose.length eH,Value.int IntKind.i64 dG,Value.int IntKind.i64 eg,Value.bool f1,Value.int IntKind.i64 lf1] 29);refine bodyPost_ret (v:= .agg #[.slice dI s.firm.length dH,.slice eI s.loose.length eH,.int .i64 dG,.int .i64 eg,.bool f1,.int .i64 lf1]) (results_cell_row rfl _ _ (g2+1) 29 _ (0,0) _ rfl hblk Tryz.underlying29 rfl (six38 _ _ _ _ _ _)) rfl ?_;rw[HE.out];have ax:=(fr_six (Fr.refl (fun k=>k=g2+1) w1) (.inl rfl) (.slice dI s.firm.length dH) (.slice eI s.loose.length eH) (.int .i64 dG) (.int .i64 eg) (.bool f1) (.int .i64 lf1)).alloc (Obj.cells #[Value.slice dI s.firm.length dH,Value.slice eI s.loose.length eH,Value.int IntKind.i64 dG,Value.int IntKind.i64 eg,Value.bool f1,Value.int IntKind.i64 lf1] 29);exact⟨_,rfl,ko.out.fr ax (fun k hk=> .inr (.inr hk)) (fun k hk=> .inl (.inl hk)),aw.out.trans (ax.below (fun k hk=>by have:=HG2.out;omega) aw.out.size)⟩
 |true=>
  rw[hg] at ht;have e:s.flush={s.burnt.land (List.replicate s.loose.length true) with nw:=fadd s.nw 0,nf:=fadd s.nf one64}:=by simp[Sim.flush,hg]
  have ht1:TRd (fun k=>A k∨k=g2∨k=g2+1) w1 BD s.burnt:=ht;obtain⟨F8,Dz,lf1,dG,eg,rfl,hS1,me,iz⟩:=id ht1;obtain⟨dI,dH,rfl,_⟩:=hS1.shape;obtain⟨eI,eH,rfl,_⟩:=me.shape;have ko:=qH ht1;have HE:=qH e;have oo:=qH iz;have e1:s.burnt.firm.length=s.firm.length:=rfl;have e2:s.burnt.loose.length=s.loose.length:=rfl;obtain⟨f1,cJ⟩:∃f1,f1=s.burnt.fuse.isSome:=⟨_,rfl⟩
  rw[e1,e2,←cJ] at ko⊢;have uB:=qH cJ;have Ii:s.loose.length≤100000:=HO.out.w;clear ht ht1 hg e hS1 me iz cJ e1 e2;obtain⟨g3,hg3⟩:∃g3,g3=w1.heap.size:=⟨_,rfl⟩
  have mR:=qH hg3;go_wp2;rw[←hg3];obtain⟨W3,hW3⟩:∃W3,W3=w1.alloc (Obj.cells #[Value.slice dI s.firm.length dH,Value.slice eI s.loose.length eH,Value.int IntKind.i64 dG,Value.int IntKind.i64 eg,Value.bool f1,Value.int IntKind.i64 lf1] 29):=⟨_,rfl⟩
  rw[←hW3];have hb3:Dv.Blk W3 g3 29 #[Value.slice dI s.firm.length dH,Value.slice eI s.loose.length eH,Value.int IntKind.i64 dG,Value.int IntKind.i64 eg,Value.bool f1,Value.int IntKind.i64 lf1]:=by rw[hW3,hg3];exact heap_alloc_new w1 _
  have EQ:=qH (show Below w1.heap.size w1 W3 by rw[hW3];exact(Below.refl _ _).alloc (Nat.le_refl _) _);have aj:=qH hb3;have vz:=qH (show W3.heap.size=g3+1 by rw[hW3,hg3];simp);clear hW3 hg3 hb3
  go_loopw [5,6] (fun v i wr=>∃k:Nat,k≤s.loose.length∧i= .int .i64 k∧wr.ownsRow W3.heap.size 4 1 v k (trues k)∧Below W3.heap.size W3 wr) (fun _ i _=>s.loose.length-(intOf i).toNat)
  case atStart=>exact⟨0,Nat.zero_le _,rfl,World.ownsRow_nil _ _ _ _,Below.refl _ _⟩
  case round=>
   obtain⟨k,hk,rfl,hown,ad⟩:=hrel;obtain⟨A3,c3,rfl,hc3⟩:=own_shape hown;have eL:=qH (aj.out.below ad aj.out.lt);have hc1:wr.cell? ⟨g3,1,none⟩=some (.slice eI s.loose.length eH):=eL.out.cell 1;by_cases hlt:k<s.loose.length
   ·have xY:=qH hown
    have tz:=qH ad;clear hown ad;go_wp2_with (at_builtin;refine wpList_own rfl (.tmp 23) (.tmp 24) 47 47 rfl W3.heap.size 4 (.bool false) 1 1 Tryz.underlying47 info4 rfl rfl (xY.out.alloc _) rfl (src_one wr Tryz.underlying47 4 _ rfl) (tz.out.alloc tz.out.size _) (Nat.le_refl _) ?_ ?_ ?_ ?_)
    ·unfold maxLen;omega
    ·omega
    ·have:=tz.out.size;simp;omega
    intro v5 w5 an aK _;rw[←trues_succ] at an;have dJ:=qH an;have ay:=qH aK;clear an aK;go_wp2;go_roundw
    case rel=>exact⟨k+1,by omega,by go_num,dJ.out,ay.out⟩
    case measure=>simp[intOf];omega
   ·obtain rfl:k=s.loose.length:=by omega
    have oe:=qH (KB.own hown);have hbr:Below w1.heap.size w1 wr:=EQ.out.trans (ad.mono (by have:=vz.out;have:=mR.out;omega));have Iw:TRd (fun k=>(A k∨k=g2∨k=g2+1)∨k=g3) wr _ s.burnt:=ko.out.fr (D:=fun _=>False) (Fr.of_below hbr) (fun _ h=>h.elim) (fun k hk=>by
     rcases hk with hk|hk
     ·exact .inl hk
     ·exact .inr (by have:=mR.out;omega))
    have IW:=qH Iw;have jX:=qH hbr;have LC:=qH (show ∀k,((A k∨k=g2∨k=g2+1)∨k=g3)→k<wr.heap.size from fun k hk=>by
     have h1:=eL.out.lt;have h2:=HG2.out;have h3:=mR.out;have h4:=dX.out;rcases hk with (hk|hk|hk)|hk
     ·have:=HA.out k hk;omega
     ·omega
     ·omega
     ·omega)
    have c0:wr.cell? ⟨g3,0,none⟩=some (.slice dI s.firm.length dH):=eL.out.cell 0;have c2:wr.cell? ⟨g3,2,none⟩=some (.int .i64 dG):=eL.out.cell 2;have DO:wr.cell? ⟨g3,3,none⟩=some (.int .i64 eg):=eL.out.cell 3;have c4:wr.cell? ⟨g3,4,none⟩=some (.bool f1):=eL.out.cell 4;have c5:wr.cell? ⟨g3,5,none⟩=some (.int .i64 lf1):=eL.out.cell 5;have bW:=qH (ae.out.below hbr (by have:=dX.out;omega));clear hown ad Iw hbr;go_wp2_with fail
    go_at_call 22;refine(refcrash_any _ IW.out HO.out.burnt LC.out oe.out).mono ?_;rintro e w4⟨MW,rfl,rt,hb4⟩;obtain⟨MT,Mp,lf4,vP,vt,rfl,Cl,hL4,_⟩:=id rt;obtain⟨ve,uU,rfl,_⟩:=Cl.shape;obtain⟨uW,vk,rfl,_⟩:=hL4.shape;have eJ:=qH (eL.out.below hb4 eL.out.lt);have da:=qH (bW.out.below hb4 bW.out.lt);obtain⟨C,hC⟩:∃C,C=s.burnt.crash (List.replicate s.loose.length true):=⟨_,rfl⟩
    rw[←hC] at rt Cl hL4⊢;have Jl:=qH Cl;have I0:=qH hL4;obtain⟨f4,tn⟩:∃f4,f4=C.fuse.isSome:=⟨_,rfl⟩
    rw[←tn] at rt⊢;have HC:=qH hC;clear hC tn;have MV:=qH rt;have ah:=qH hb4;have e4:w4.cell? ⟨g3,4,none⟩=some (.bool f1):=eJ.out.cell 4;have e5:w4.cell? ⟨g3,5,none⟩=some (.int .i64 lf1):=eJ.out.cell 5;have d0:w4.cell? ⟨g2+1,0,none⟩=some (.slice none 0 0):=da.out.cell 0;have d1:w4.cell? ⟨g2+1,1,none⟩=some (.slice none 0 0):=da.out.cell 1;have d2:w4.cell? ⟨g2+1,2,none⟩=some (.int .i64 0):=da.out.cell 2;have d3:w4.cell? ⟨g2+1,3,none⟩=some (.int .i64 0):=da.out.cell 3;have d4:w4.cell? ⟨g2+1,4,none⟩=some (.bool false):=da.out.cell 4;have d5:w4.cell? ⟨g2+1,5,none⟩=some (.int .i64 0):=da.out.cell 5;have df:∀i,w4.frozen? ⟨g2+1,i,none⟩=false:=da.out.frozen;have l2:g2+1<w4.heap.size:=da.out.lt;have l3:g3<w4.heap.size:=eJ.out.lt;clear rt hb4 Cl hL4 c0 hc1 c2 DO c4 c5;go_wp2;have hblk:=(blk_six da.out (.slice ve C.firm.length uU) (.slice uW C.loose.length vk) (.int .i64 vP) (.int .i64 (wrap64 (vt+1))) (.bool f1) (.int .i64 lf1)).alloc (Obj.cells #[Value.slice ve C.firm.length uU,Value.slice uW C.loose.length vk,Value.int IntKind.i64 vP,Value.int IntKind.i64 (wrap64 (vt+1)),Value.bool f1,Value.int IntKind.i64 lf1] 29);refine bodyPost_ret (v:= .agg #[.slice ve C.firm.length uU,.slice uW C.loose.length vk,.int .i64 vP,.int .i64 (wrap64 (vt+1)),.bool f1,.int .i64 lf1]) (results_cell_row rfl _ _ (g2+1) 29 _ (0,0) _ rfl hblk Tryz.underlying29 rfl (six38 _ _ _ _ _ _)) rfl ?_;rw[HE.out];have ax:=(fr_six (Fr.refl (fun k=>k=g2+1) w4) (.inl rfl) (.slice ve C.firm.length uU) (.slice uW C.loose.length vk) (.int .i64 vP) (.int .i64 (wrap64 (vt+1))) (.bool f1) (.int .i64 lf1)).alloc (Obj.cells #[Value.slice ve C.firm.length uU,Value.slice uW C.loose.length vk,Value.int IntKind.i64 vP,Value.int IntKind.i64 (wrap64 (vt+1)),Value.bool f1,Value.int IntKind.i64 lf1] 29);have pw:=Jl.out.fr (A':=A) ax (fun k hk=> .inl (.inr (.inr hk))) (fun k hk=> .inl (.inl (.inl hk)));have Ha:=I0.out.fr (A':=A) ax (fun k hk=> .inl (.inr (.inr hk))) (fun k hk=> .inl (.inl (.inl hk)));have hbb:Below w.heap.size w w4:=(aw.out.trans (jX.out.mono aw.out.size)).trans (ah.out.mono (Nat.le_trans aw.out.size jX.out.size));have dK:=hbb.trans (ax.below (fun k hk=>by have:=HG2.out;omega) hbb.size);have hq1:C.firm=({s.burnt.land (List.replicate s.loose.length true) with nw:=fadd s.nw 0,nf:=fadd s.nf one64}:Sim).firm:=by rw[HC.out];rfl
    have hq2:C.loose=({s.burnt.land (List.replicate s.loose.length true) with nw:=fadd s.nw 0,nf:=fadd s.nf one64}:Sim).loose:=by rw[HC.out];rfl
    have Cq:({s.burnt.land (List.replicate s.loose.length true) with nw:=fadd s.nw 0,nf:=fadd s.nf one64}:Sim).fuse=s.burnt.fuse:=rfl;generalize ({s.burnt.land (List.replicate s.loose.length true) with nw:=fadd s.nw 0,nf:=fadd s.nf one64}:Sim)=G at hq1 hq2 Cq⊢;have EY:∀k,G.fuse=some k→lf1=(k:Int):=by rw[Cq];exact oo.out
    rw[hq1] at pw;rw[hq2] at Ha;refine⟨_,rfl,⟨.slice ve C.firm.length uU,.slice uW C.loose.length vk,lf1,vP,wrap64 (vt+1),?_,?_,?_,EY⟩,?_⟩
    ·rw[Cq,←uB.out]
    ·rw[hq1]
     exact pw
    ·rw[hq2]
     exact Ha
    ·exact dK
open Go.RowKit Go.Rst Go.Pg Go.Crc Go.Dv
def RVP(P:Value→List UInt8→Prop)(A:Nat→Prop)(w:World)(v:Value)(rs:List Rw):Prop:=
 ∃a c,v= .slice a rs.length c∧rs.length≤c∧c≤maxLen∧(rs= []∨∃b off,a=some ⟨b,off,none⟩∧b<w.heap.size∧¬A b∧
  ∀j (h:j<rs.length),w.cell? ⟨b,off+j*2,none⟩=some (.string rs[j].1)∧∃u,w.cell? ⟨b,off+j*2+1,none⟩=some u∧P u rs[j].2)
def CVP(P:Value→List UInt8→Prop)(w:World)(v:Value)(rs:List Chg):Prop:=
 ∃a c,v= .slice a rs.length c∧rs.length≤c∧c≤maxLen∧(rs= []∨∃b off,a=some ⟨b,off,none⟩∧b<w.heap.size∧
  ∀j (h:j<rs.length),w.cell? ⟨b,off+j*3,none⟩=some (.string rs[j].1)∧(∃u,w.cell? ⟨b,off+j*3+1,none⟩=some u∧P u rs[j].2.1)∧w.cell? ⟨b,off+j*3+2,none⟩=some (.bool rs[j].2.2))
section
variable {P P':Value→List UInt8→Prop} {A A' D:Nat→Prop} {w w':World} {v:Value} {rs:List Rw}
theorem RVP.fr(h:RVP P A w v rs)(hf:Fr D w w')(hD:∀k,D k→A k)(hA:∀k,A' k→A k∨w.heap.size≤k)(hP:∀u l,P u l→P' u l):RVP P' A' w' v rs:=by
 obtain⟨a,c,rfl,h1,h2,h3⟩:=h;refine⟨a,c,rfl,h1,h2,h3.imp id fun h=>?_⟩;obtain⟨b,off,rfl,hb0,hn,hc⟩:=h;refine⟨b,off,rfl,Nat.lt_of_lt_of_le hb0 hf.size,fun ha=>by rcases hA b ha with h4|h4;exact hn h4;omega,fun j hj=>?_⟩;obtain⟨h4,u,h5,h6⟩:=hc j hj;have hbk:=hf.block b hb0 (fun hd=>hn (hD b hd));exact⟨(World.cell?_of_block (a:=⟨b,off+j*2,none⟩) hbk).trans h4,u,(World.cell?_of_block (a:=⟨b,off+j*2+1,none⟩) hbk).trans h5,hP _ _ h6⟩
theorem RVP.below{B:Nat}(h:RVP P A w v rs)(hb:Below B w w')(hB:w.heap.size≤B):RVP P A w' v rs:=
 h.fr (D:=fun _=>False) (Fr.of_below ⟨hb.os,hb.tape,hb.output,hb.size,fun k hk=>hb.block k (Nat.lt_of_lt_of_le hk hB)⟩) (fun _ h=>h.elim) (fun _ h=> .inl h) (fun _ _ h=>h)
theorem RVP.shape(h:RVP P A w v rs):∃A c,v= .slice A rs.length c∧rs.length≤c∧(c:Int)≤9223372036854775807:=by
 obtain⟨A,c,h,h1,h2,_⟩:=h;refine⟨A,c,h,h1,?_⟩;unfold maxLen at h2;omega
theorem rvp_at{a:Option Addr}{n c:Nat}(h:RVP P A w (.slice a n c) rs){k:Nat}(hk:k<rs.length):
  ∃b off u,a=some ⟨b,off,none⟩∧b<w.heap.size∧w.cell? ⟨b,off+k*2,none⟩=some (.string rs[k].1)∧w.cell? ⟨b,off+k*2+1,none⟩=some u∧P u rs[k].2:=by
 obtain⟨A',c',he,_,_,h3⟩:=h;injection he with e1 _ _;subst e1;rcases h3 with rfl|⟨b,off,rfl,hb,_,hc⟩
 ·simp at hk
 ·obtain⟨h1,u,h2,h3⟩:=hc k hk
  exact⟨b,off,u,rfl,hb,h1,h2,h3⟩
theorem RVP.own{base:Nat}{eR:TypeId}{us:List (ByteArray×List UInt8×Value)}(ho:w.ownsRow base eR 2 v us.length (rowCells us))(hf:∀x∈us,P x.2.2 x.2.1)(hA:∀k,A k→k<base):RVP P A w v (us.map (fun x=>(x.1,x.2.1))):=by
 rcases ho.2 with ⟨rfl,h0⟩|⟨g,cap,cur,rfl,hb,hg,hnc,hcm,hcs,ht⟩
 ·have:us= []:=List.eq_nil_of_length_eq_zero h0
  subst this;exact⟨none,0,rfl,Nat.le_refl _,Nat.zero_le _,.inl rfl⟩
 ·refine⟨some ⟨g,0,none⟩,cap,by rw[List.length_map],by rw[List.length_map];exact hnc,hcm,.inr ⟨g,0,rfl,(Array.getElem?_eq_some_iff.1 hg).1,fun ha=>by have:=hA g ha;omega,fun j hj=>?_⟩⟩
  rw[List.length_map] at hj;have hc:=rowCells_get us j hj;have h1:=ho.cells (g:=g) rfl _ _ hc.1;have h2:=ho.cells (g:=g) rfl _ _ hc.2;rw[Addr.add_lit] at h1 h2;refine⟨by simpa using h1,us[j].2.2,by simpa [Nat.add_assoc] using h2,?_⟩;have:=hf us[j] (List.getElem_mem hj)
  simpa using this
theorem RVP.rr(h:RVP P A w v rs)(hP:∀u l,P u l→RB w u l):RR w v rs:=by
 obtain⟨a,c,rfl,h1,h2,h3⟩:=h;refine⟨a,c,rfl,h1,h2,h3.imp id fun h=>?_⟩;obtain⟨b,off,rfl,hb0,_,hc⟩:=h;refine⟨b,off,rfl,hb0,fun j hj=>?_⟩;obtain⟨h4,u,h5,h6⟩:=hc j hj;exact⟨h4,u,h5,hP _ _ h6⟩
theorem cvp_at{a:Option Addr}{n c:Nat}{rs:List Chg}(h:CVP P w (.slice a n c) rs){k:Nat}(hk:k<rs.length):
  ∃b off u,a=some ⟨b,off,none⟩∧w.cell? ⟨b,off+k*3,none⟩=some (.string rs[k].1)∧w.cell? ⟨b,off+k*3+1,none⟩=some u∧P u rs[k].2.1∧w.cell? ⟨b,off+k*3+2,none⟩=some (.bool rs[k].2.2):=by
 obtain⟨A',c',he,_,_,h3⟩:=h;injection he with e1 _ _;subst e1;rcases h3 with rfl|⟨b,off,rfl,hb,hc⟩
 ·simp at hk
 ·obtain⟨h1,⟨u,h2,h3⟩,h4⟩:=hc k hk
  exact⟨b,off,u,rfl,h1,h2,h3,h4⟩
theorem CVP.fr{rs:List Chg}(h:CVP P w v rs)(hf:Fr D w w')(hD:∀a c,v= .slice a rs.length c→rs≠ []→∀b off,a=some ⟨b,off,none⟩→¬D b)(hP:∀u l,P u l→P' u l):CVP P' w' v rs:=by
 obtain⟨a,c,rfl,h1,h2,h3⟩:=h;refine⟨a,c,rfl,h1,h2,?_⟩;rcases h3 with h3|⟨b,off,rfl,hb0,hc⟩
 ·exact .inl h3
 by_cases hne:rs= []
 ·exact .inl hne
 refine .inr ⟨b,off,rfl,Nat.lt_of_lt_of_le hb0 hf.size,fun j hj=>?_⟩;obtain⟨h4,⟨u,h5,h6⟩,h7⟩:=hc j hj;have hbk:=hf.block b hb0 (hD _ _ rfl hne b off rfl);exact⟨(World.cell?_of_block (a:=⟨b,off+j*3,none⟩) hbk).trans h4,⟨u,(World.cell?_of_block (a:=⟨b,off+j*3+1,none⟩) hbk).trans h5,hP _ _ h6⟩,(World.cell?_of_block (a:=⟨b,off+j*3+2,none⟩) hbk).trans h7⟩
theorem CVP.below{rs:List Chg}(h:CVP P w v rs)(hb:Below w.heap.size w w')(hP:∀u l,P u l→P' u l):CVP P' w' v rs:=h.fr (D:=fun _=>False) (Fr.of_below hb) (fun _ _ _ _ _ _ _ h=>h) hP
theorem CVP.rc{rs:List Chg}(h:CVP P w v rs)(hP:∀u l,P u l→RB w u l):RC w v rs:=by
 obtain⟨a,c,rfl,h1,h2,h3⟩:=h;refine⟨a,c,rfl,h1,h2,h3.imp id fun h=>?_⟩;obtain⟨b,off,rfl,hb0,hc⟩:=h;refine⟨b,off,rfl,hb0,fun j hj=>?_⟩;obtain⟨h4,⟨u,h5,h6⟩,h7⟩:=hc j hj;exact⟨h4,⟨u,h5,hP _ _ h6⟩,h7⟩
def RRd(A:Nat→Prop)(w:World)(v:Value)(rs:List Rw):Prop:=RVP (RAd A w) A w v rs
def CRd(A:Nat→Prop)(w:World)(v:Value)(rs:List Chg):Prop:=CVP (RAd A w) w v rs
theorem RRd.fr(h:RRd A w v rs)(hf:Fr D w w')(hD:∀k,D k→A k)(hA:∀k,A' k→A k∨w.heap.size≤k):RRd A' w' v rs:=RVP.fr h hf hD hA (fun _ _ h=>h.fr hf hD hA)
theorem RRd.below(h:RRd A w v rs)(hb:Below w.heap.size w w'):RRd A w' v rs:=h.fr (D:=fun _=>False) (Fr.of_below hb) (fun _ h=>h.elim) (fun _ h=> .inl h)
theorem RRd.rr(h:RRd A w v rs):RR w v rs:=RVP.rr h (fun _ _ h=>h.1)
theorem CRd.rc{rs:List Chg}(h:CRd A w v rs):RC w v rs:=CVP.rc h (fun _ _ h=>h.1)
theorem CRd.below{rs:List Chg}(h:CRd A w v rs)(hb:Below w.heap.size w w'):CRd A w' v rs:=CVP.below h hb (fun _ _ h=>h.fr (D:=fun _=>False) (Fr.of_below hb) (fun _ h=>h.elim) (fun _ h=> .inl h))
theorem rad_shape{u:Value}{l:List UInt8}(h:RAd A w u l):∃A c,u= .slice A l.length c:=rb_shape h.1
end
open Go.RowKit Go.Rst Go.Dv
def ReadR(A:Nat→Prop)(w:World)(l:List UInt8)(e:Ending)(w':World):Prop:=∃u,e= .returned (.tuple #[u,.int .i64 0])∧RAd A w u l∧Below w.heap.size w w'
theorem ReadR.mk{A:Nat→Prop}{w w':World}{u:Value}{l l':List UInt8}(h:RAd A w u l)(hb:Below w.heap.size w w')(hl:l'=l):ReadR A w l' (.returned (.tuple #[u,.int .i64 0])) w':=
 ⟨u,rfl,by rw[hl];exact h,hb⟩
theorem refread_any{A:Nat→Prop}{w:World}{tv:Value}{s:Sim}(k:Nat)(h:TRd A w tv s)(hk:k<s.firm.length)(ng:s.loose.length≤100000)(hF:s.firm.length≤4096):
  Calls Tryz.prog 100 #[tv,.int .i64 (k:Int)] w (ReadR A w (s.read k)):=by
 obtain⟨vS,vL,lf,cw,cf,rfl,hS,hL,ce⟩:=h;obtain⟨aS,cS,rfl,hc⟩:=hS.shape;obtain⟨aL,cL,rfl,_⟩:=hL.shape;obtain⟨bS,uS,L9,DF,_,xa,FN⟩:=hS.at_ hk;subst L9;have dQ:=qH FN;have HL:=qH hL;have hE:∀q,q=upTo s.loose k s.loose.length→(q=0→s.read k=s.firm.getD k [])∧(0<q→s.read k=(wat s.loose (q-1)).2):=fun q hq=>by
  subst hq;unfold Sim.read;refine⟨fun h0=>by rw[if_pos h0],fun h0=>by rw[if_neg (by omega)]⟩
 have HE:=qH hE;have cE:(0:Int)≤(k:Int):=by omega
 have hk1:(k:Int)<(s.firm.length:Int):=by omega
 have yn:∀o,(w.alloc o).cell? ⟨bS,k,none⟩=some uS:=fun o=>(World.cell?_of_block (a:=⟨bS,k,none⟩) (Below.heap_alloc w o bS DF)).trans xa
 obtain⟨aU,cU,zX,_,_,_⟩:=FN.1;obtain⟨nU,DW⟩:∃nU,nU=(s.firm.getD k []).length:=⟨_,rfl⟩
 rw[←DW] at zX;have Mr:=qH DW;subst zX;clear hS hL ce FN hE xa DW;go_enter Tryz.func100,Tryz.ntmps100;go_wp2;have hcc:=yn (Obj.cells #[Value.slice (some ⟨bS,0,none⟩) s.firm.length cS,Value.slice aL s.loose.length cL,Value.int IntKind.i64 cw,Value.int IntKind.i64 cf,Value.bool s.fuse.isSome,Value.int IntKind.i64 lf] 29);clear yn;have sw:=qH hcc;clear hcc
 go_loop [6] (fun i=>∃j:Nat,j≤s.loose.length∧i= .int .i64 ((j:Int)-1)∧upTo s.loose k s.loose.length=upTo s.loose k j) (fun i=>(intOf i+1).toNat)
 case atStart=>exact⟨s.loose.length,Nat.le_refl _,rfl,rfl⟩
 case round=>
  obtain⟨j,hj,rfl,hu⟩:=hrel
  cases j with
  |zero=>
   have e0:(((0:Nat):Int)-1)= -1:=rfl;rw[e0];have HU:=qH hu;have hcc:=sw.out;clear hu;go_wp2
   go_ret2
   refine ReadR.mk dQ.out ((Below.refl _ _).alloc (Nat.le_refl _) _) ?_;exact(HE.out 0 (by rw[HU.out];rfl)).1 rfl
  |succ j=>
   have e0:(((j+1:Nat):Int)-1)=(j:Int):=by omega
   rw[e0];have hj':j<s.loose.length:=by omega
   obtain⟨bL,uL,Bi,hbL,_,hc1,hc2,sM⟩:=HL.out.at_ hj';obtain⟨x,hx⟩:∃x,x=wat s.loose j:=⟨_,rfl⟩
   rw[←hx] at hc1 sM;subst Bi;have LJ:(w.alloc (Obj.cells #[Value.slice (some ⟨bS,0,none⟩) s.firm.length cS,Value.slice (some ⟨bL,0,none⟩) s.loose.length cL,Value.int IntKind.i64 cw,Value.int IntKind.i64 cf,Value.bool s.fuse.isSome,Value.int IntKind.i64 lf] 29)).cell? ⟨bL,j*2,none⟩=some (.int .i64 (x.1:Int)):=(World.cell?_of_block (a:=⟨bL,j*2,none⟩) (Below.heap_alloc w _ bL hbL)).trans hc1;have De:(w.alloc (Obj.cells #[Value.slice (some ⟨bS,0,none⟩) s.firm.length cS,Value.slice (some ⟨bL,0,none⟩) s.loose.length cL,Value.int IntKind.i64 cw,Value.int IntKind.i64 cf,Value.bool s.fuse.isSome,Value.int IntKind.i64 lf] 29)).cell? ⟨bL,j*2+1,none⟩=some uL:=(World.cell?_of_block (a:=⟨bL,j*2+1,none⟩) (Below.heap_alloc w _ bL hbL)).trans hc2;obtain⟨aV,cV,zy,_,_,_⟩:=id sM.1;obtain⟨nV,vE⟩:∃nV,nV=x.2.length:=⟨_,rfl⟩
   rw[←vE] at zy;subst zy;have uV:=qH sM;have HX:=qH hx;have HU:=qH hu;have zq:(j:Int)<(s.loose.length:Int):=by omega
   by_cases hxk:x.1=k
   ·have hd:((x.1:Int)==(k:Int))=true:=by rw[hxk];simp
    have zP:=qH hxk;clear hx hu hc1 hc2 sM hxk vE;go_wp2
    go_ret2
    refine ReadR.mk uV.out ((Below.refl _ _).alloc (Nat.le_refl _) _) ?_;have e:=(HE.out (j+1) (by rw[HU.out];unfold upTo;rw[if_pos (by rw[←HX.out];exact zP.out)])).2 (by omega);rw[e,HX.out];rfl
   ·have hd:((x.1:Int)==(k:Int))=false:=by simp;omega
    have zP:=qH hxk;clear hx hu hc1 hc2 sM hxk vE;go_wp2;go_round
    case rel=>exact⟨j,by omega,rfl,by rw[HU.out];conv=>{lhs;unfold upTo};rw[if_neg (by rw[←HX.out];exact zP.out)]⟩
    case measure=>simp[intOf]
theorem refspoil_no{A:Nat→Prop}{w:World}{tv:Value}{s:Sim}(i a:Int)(v:UInt8)(h:TRd A w tv s)(hc:s.can i a=false):
  Calls Tryz.prog 26 #[tv,.int .i64 i,.int .i64 a,bv v] w (MadeD2 A w s (.bool false)):=by
 have HT:=qH h;obtain⟨vS,vL,lf,cw,cf,rfl,hS,hL,ce⟩:=h;obtain⟨aS,cS,rfl,xa⟩:=hS.shape;obtain⟨aL,cL,rfl,_⟩:=hL.shape;have HS:=qH hS;have HL:=qH hL;have oo:=qH ce;clear hS hL ce;obtain⟨f0,ew⟩:∃f0,f0=s.fuse.isSome:=⟨_,rfl⟩
 rw[←ew] at HT⊢;have HF:=qH ew.symm;clear ew;have gU:(decide (i<0)=true)∨(decide (i<0)=false∧(s.firm.length:Int)≤i)∨(decide (i<0)=false∧¬(s.firm.length:Int)≤i∧a<0)∨(decide (i<0)=false∧¬(s.firm.length:Int)≤i∧¬a<0∧63<a):=by
  by_cases h1:i<0
  ·exact .inl (by simpa using h1)
  ·by_cases h2:(s.firm.length:Int)≤i
   ·exact .inr (.inl ⟨by simpa using h1,h2⟩)
   ·by_cases h3:a<0
    ·exact .inr (.inr (.inl ⟨by simpa using h1,h2,h3⟩))
    ·refine .inr (.inr (.inr ⟨by simpa using h1,h2,h3,?_⟩))
     have hh:s.has i=true:=Sim.has_iff.2 ⟨by omega,by omega⟩;rcases Int.lt_or_le 63 a with h4|h4
     ·exact h4
     ·exfalso
      have:s.can i a=true:=by simp[Sim.can,hh];omega
      rw[hc] at this;cases this
 clear hc;unfold bv;rcases gU with h1|⟨h1,h2⟩|⟨h1,h2,h3⟩|⟨h1,h2,h3,h4⟩
 all_goals
  go_enter Tryz.func26,Tryz.ntmps26;go_wp2;exact bodyPost_ret (v:= .tuple #[.agg #[.slice aS s.firm.length cS,.slice aL s.loose.length cL,.int .i64 cw,.int .i64 cf,.bool f0,.int .i64 lf],.bool false]) (by simp[results,Tryz.results26,go_sem]) rfl
   (MadeD2.mk HS.out HL.out HF.out oo.out (below2 w _ _))
theorem refspoil_yes{A:Nat→Prop}{w:World}{tv:Value}{s:Sim}(i j:Nat)(v:UInt8)(h:TRd A w tv s)(hok:OK s)(hA:∀k,A k→k<w.heap.size)(hi:i<s.firm.length)(hj:j<64):
  Calls Tryz.prog 26 #[tv,.int .i64 (i:Int),.int .i64 (j:Int),bv v] w (MadeD2 A w {s with firm:=s.firm.set i ((s.firm.getD i []).set j v)} (.bool true)):=by
 obtain⟨vS,vL,lf,cw,cf,rfl,hS,hL,ce⟩:=h;obtain⟨aS,cS,rfl,hc⟩:=hS.shape;obtain⟨aL,cL,rfl,_⟩:=hL.shape;have FV:=hok.n;have HS:=qH hS;have HL:=qH hL;have oo:=qH ce;have HO:=qH hok;have HA:=qH hA;obtain⟨N,hN⟩:∃N,N=s.firm.length:=⟨_,rfl⟩
 rw[←hN] at hc FV hi;have HN:=qH hN;clear hS hL ce hok hA;rw[←hN];clear hN;obtain⟨f0,ew⟩:∃f0,f0=s.fuse.isSome:=⟨_,rfl⟩
 rw[←ew];have HF:=qH ew.symm;clear ew;have oI:∃qs:List (List UInt8×Value),qs.map (·.1)=s.firm∧(∀q∈qs,RAd A w q.2 q.1)∧∀w',Below w.heap.size w w'→Src Tryz.prog 1 26 (.slice aS N cS) N (qs.map (·.2)) w':=by
  obtain⟨qs,h1,h2,h3⟩:=HS.out;refine⟨qs,h1,h3,fun w' hb=>?_⟩;have h4:=h2.fr (D:=fun _=>False) (A':=A) (Fr.of_below hb) (fun _ h=>h.elim) (fun _ h=> .inl h);rw[←HN.out] at h4;refine h4.src (by rw[HN.out,←h1];simp) (by decide) Tryz.underlying26 (fun x hx=>?_);obtain⟨q,hq,rfl⟩:=List.mem_map.1 hx;exact(h3 q hq).one
 obtain⟨qs,hq1,hq2,hsrc⟩:=oI;have IJ:qs.length=N:=by rw[HN.out,←hq1];simp
 have G6:=qH IJ;have B7:=qH hq1;have Bv:=qH hq2;have xA:=qH hsrc;clear hq1 hq2 hsrc IJ;have kG:=qH (show 0+N≤maxLen by unfold maxLen;omega);have kZ:=qH (show(0+N)*24≤140737488355328 by omega);have hi0:decide ((i:Int)<0)=false:=by simp
 have hi1:¬(N:Int)≤(i:Int):=by omega
 have hi2:(0:Int)≤(i:Int):=by omega
 have CJ:(i:Int)<(N:Int):=by omega
 have GI:¬(j:Int)<0:=by omega
 have Id:¬63<(j:Int):=by omega
 have s4:(0:Int)≤(j:Int):=by omega
 have MO:(j:Int)<64:=by omega
 unfold bv;go_enter Tryz.func26,Tryz.ntmps26;go_wp2_with (at_builtin;refine wpList_own rfl (.tmp 30) (.tmp 32) 26 26 rfl (w.heap.size+1+1) 46 (.slice none 0 0) 1 24 Tryz.underlying26 info46 rfl rfl (World.ownsRow_nil _ _ _ _) rfl (xA.out _ (below2 w _ _)) (Below.refl (w.heap.size+1+1) _) (Nat.le_refl _) kG.out kZ.out (by simp) ?_)
 intro vs w2 hown ad _;obtain⟨g2,hg2⟩:∃g2,g2=w.heap.size:=⟨_,rfl⟩
 obtain⟨W1,hW1⟩:∃W1,W1=((w.alloc (Obj.cells #[Value.slice aS N cS,Value.slice aL s.loose.length cL,Value.int IntKind.i64 cw,Value.int IntKind.i64 cf,Value.bool f0,Value.int IntKind.i64 lf] 29)).alloc (Obj.cells #[Value.slice none 0 0,Value.slice none 0 0,Value.int IntKind.i64 0,Value.int IntKind.i64 0,Value.bool false,Value.int IntKind.i64 0] 29)):=⟨_,rfl⟩
 rw[←hW1] at ad;have hb1:Dv.Blk W1 g2 29 #[Value.slice aS N cS,Value.slice aL s.loose.length cL,Value.int IntKind.i64 cw,Value.int IntKind.i64 cf,Value.bool f0,Value.int IntKind.i64 lf]:=by rw[hW1,hg2];exact heap_alloc2_old w _ _
 have hb2:Dv.Blk W1 (g2+1) 29 #[Value.slice none 0 0,Value.slice none 0 0,Value.int IntKind.i64 0,Value.int IntKind.i64 0,Value.bool false,Value.int IntKind.i64 0]:=by rw[hW1,hg2];exact heap_alloc2_new w _ _
 have ai:Below w.heap.size w w2:=by
  have:Below w.heap.size w W1:=by rw[hW1];exact below2 w _ _
  exact this.trans (ad.mono (by omega))
 have hs1:W1.heap.size=g2+1+1:=by rw[hW1,hg2];simp
 rw[←hg2] at hown ad⊢
 --the row's block
 obtain⟨gs,iD,rfl,xH⟩:∃gs iD,vs= .slice (some ⟨gs,0,none⟩) N iD∧g2+1+1≤gs:=by
  rcases hown.2 with ⟨_,h0⟩|⟨g,cap,cur,he,hge,_⟩
  ·omega
  ·exact⟨g,cap,by rw[he],hge⟩
 have hown2:w2.ownsRow (g2+1+1) 46 1 (.slice (some ⟨gs,0,none⟩) N iD) N (qs.map (·.2)):=by simpa using hown
 have lZ:=(hown2.lt gs rfl).2;have Ir:=hown2.cellAt i (by omega);have B3:i<qs.length:=by rw[G6.out];exact hi
 rw[List.getElem?_map,List.getElem?_eq_getElem B3,Option.map_some] at Ir;have mm:=Bv.out qs[i] (List.getElem_mem B3);have hfi:qs[i].1=s.firm.getD i []:=by rw[←B7.out];simp[List.getD_eq_getElem?_getD,List.getElem?_map,List.getElem?_eq_getElem B3]
 rw[hfi] at mm;obtain⟨l,hl⟩:∃l,l=s.firm.getD i []:=⟨_,rfl⟩
 have ck:l.length=64:=by rw[hl];exact HO.out.firm_ (by rw[←HN.out];exact hi)
 rw[←hl] at mm;obtain⟨u,hu⟩:∃u,u=qs[i].2:=⟨_,rfl⟩
 rw[←hu] at mm Ir;have xO:=mm.1.below ai;obtain⟨aU,cU,zX,_⟩:=id mm.1;rw[ck] at zX;subst zX;have al:=qH (hb1.below ad (by omega));have ae:=qH (hb2.below ad (by omega));have aw:=qH ai;have HG2:=qH hg2;have L5:=qH xH;have Cw:=qH lZ;have HOW:=qH hown2;have jD:=qH xO;have mM:=qH ck;have I1:=qH hl;have dX:=qH (show g2+1+1≤w2.heap.size by omega);clear hown ad hW1 hb1 hb2 ai hg2 hs1 xH lZ hown2 mm xO ck hl hu hfi B3;have JJ:=qH (show Src Tryz.prog 1 46 (.slice aU 64 cU) 64 (bvs l) w2 by have:=jD.out.src Tryz.underlying46;rw[mM.out] at this;exact this);go_wp2_with (at_builtin;refine wpList_own rfl (.tmp 34) (.tmp 38) 46 46 rfl w2.heap.size 5 (.int .u8 0) 1 1 Tryz.underlying46 info5 rfl rfl (World.ownsRow_nil _ _ _ _) rfl JJ.out (Below.refl w2.heap.size _) (Nat.le_refl _) (by unfold maxLen;omega) (by omega) (Nat.le_refl _) ?_)
 intro vb w4 hownb bh _;obtain⟨gb,cb,rfl,hgb⟩:∃gb cb,vb= .slice (some ⟨gb,0,none⟩) 64 cb∧w2.heap.size≤gb:=by
  rcases hownb.2 with ⟨_,h0⟩|⟨g,cap,cur,he,hge,_⟩
  ·omega
  ·exact⟨g,cap,by rw[he],hge⟩
 have kE:w4.ownsRow w2.heap.size 5 1 (.slice (some ⟨gb,0,none⟩) 64 cb) 64 (bvs l):=by simpa using hownb
 have JM:=(kE.lt gb rfl).2;have hcb:=kE.cellAt j (by omega);have hjl:j<l.length:=by rw[mM.out];exact hj
 rw[bvs_get hjl] at hcb;unfold bv at hcb;generalize l[j]=y at hcb;have bq:=kE.frozenAt j;have lZ:=Cw.out;have LF:=L5.out;have Ci:=own_below HOW.out bh;have uT:=Ci.cellAt i (by omega);rw[List.getElem?_eq_getElem (show i<(qs.map (·.2)).length by rw[List.length_map,G6.out];exact hi)] at uT;obtain⟨u4,Ki⟩:∃u4,w4.cell? ⟨gs,i,none⟩=some u4:=⟨_,uT⟩
 clear uT;have Mb:=Ci.frozenAt i;have hs2:=dX.out;have iH:=qH (al.out.below bh (by omega));have da:=qH (ae.out.below bh (by omega));have K8:=qH kE;have LN:=qH Ci;have es:=qH bh;have G0:=qH hgb;have b0:w4.cell? ⟨g2,0,none⟩=some (.slice aS N cS):=iH.out.cell 0;have b1:w4.cell? ⟨g2,1,none⟩=some (.slice aL s.loose.length cL):=iH.out.cell 1;have b2:w4.cell? ⟨g2,2,none⟩=some (.int .i64 cw):=iH.out.cell 2;have b3:w4.cell? ⟨g2,3,none⟩=some (.int .i64 cf):=iH.out.cell 3;have b4:w4.cell? ⟨g2,4,none⟩=some (.bool f0):=iH.out.cell 4;have b5:w4.cell? ⟨g2,5,none⟩=some (.int .i64 lf):=iH.out.cell 5;have bf:∀i,w4.frozen? ⟨g2,i,none⟩=false:=iH.out.frozen;have d0:w4.cell? ⟨g2+1,0,none⟩=some (.slice none 0 0):=da.out.cell 0;have d1:w4.cell? ⟨g2+1,1,none⟩=some (.slice none 0 0):=da.out.cell 1;have d2:w4.cell? ⟨g2+1,2,none⟩=some (.int .i64 0):=da.out.cell 2;have d3:w4.cell? ⟨g2+1,3,none⟩=some (.int .i64 0):=da.out.cell 3;have d4:w4.cell? ⟨g2+1,4,none⟩=some (.bool false):=da.out.cell 4;have d5:w4.cell? ⟨g2+1,5,none⟩=some (.int .i64 0):=da.out.cell 5;have df:∀i,w4.frozen? ⟨g2+1,i,none⟩=false:=da.out.frozen;have n1:gb≠gs:=by omega
 have n2:gb≠g2:=by omega
 have n3:gb≠g2+1:=by omega
 have n4:gs≠g2:=by omega
 have n5:gs≠g2+1:=by omega
 clear hownb kE Ci bh hgb hjl;go_wp2;obtain⟨W,hW⟩:∃W,W=(((((((((w4.setCell ⟨gb,j,none⟩ (Value.int IntKind.u8 ↑v.toNat)).setCell ⟨gs,i,none⟩ (Value.slice (some ⟨gb,0,none⟩) 64 cb)).setCell ⟨g2,0,none⟩ (Value.slice (some ⟨gs,0,none⟩) N iD)).setCell ⟨g2+1,0,none⟩ (Value.slice (some ⟨gs,0,none⟩) N iD)).setCell ⟨g2+1,1,none⟩ (Value.slice aL s.loose.length cL)).setCell ⟨g2+1,2,none⟩ (Value.int IntKind.i64 cw)).setCell ⟨g2+1,3,none⟩ (Value.int IntKind.i64 cf)).setCell ⟨g2+1,4,none⟩ (Value.bool f0)).setCell ⟨g2+1,5,none⟩ (Value.int IntKind.i64 lf)):=⟨_,rfl⟩
 rw[←hW];have hblk:Dv.Blk W (g2+1) 29 #[.slice (some ⟨gs,0,none⟩) N iD,.slice aL s.loose.length cL,.int .i64 cw,.int .i64 cf,.bool f0,.int .i64 lf]:=by
  rw[hW];exact blk_six (((da.out.far (p:=⟨gb,j,none⟩) (fun e=>n3 e.symm) _).far (p:=⟨gs,i,none⟩) (fun e=>n5 e.symm) _).far (p:=⟨g2,0,none⟩) (by show g2+1≠g2;omega) _) _ _ _ _ _ _
 refine bodyPost_ret (v:= .tuple #[.agg #[.slice (some ⟨gs,0,none⟩) N iD,.slice aL s.loose.length cL,.int .i64 cw,.int .i64 cf,.bool f0,.int .i64 lf],.bool true]) (by
  have e0:W.cell? ⟨g2+1,0,none⟩=some (.slice (some ⟨gs,0,none⟩) N iD):=hblk.cell 0;have e1:W.cell? ⟨g2+1,1,none⟩=some (.slice aL s.loose.length cL):=hblk.cell 1;have e2:W.cell? ⟨g2+1,2,none⟩=some (.int .i64 cw):=hblk.cell 2;have e3:W.cell? ⟨g2+1,3,none⟩=some (.int .i64 cf):=hblk.cell 3;have e4:W.cell? ⟨g2+1,4,none⟩=some (.bool f0):=hblk.cell 4;have e5:W.cell? ⟨g2+1,5,none⟩=some (.int .i64 lf):=hblk.cell 5;simp[results,Tryz.results26,go_sem,e0,e1,e2,e3,e4,e5]) rfl ?_
 have hg:=HG2.out;have ap:Below w.heap.size w w4:=aw.out.trans (es.out.mono aw.out.size);have hbW:Below w.heap.size w W:=by
  rw[hW];exact((((((((ap.setCell (p:=⟨gb,j,none⟩) (by show _≤gb;have:=G0.out;omega) _).setCell (p:=⟨gs,i,none⟩) (by show _≤gs;omega) _).setCell (p:=⟨g2,0,none⟩) (by show _≤g2;omega) _).setCell (p:=⟨g2+1,0,none⟩) (by show _≤g2+1;omega) _).setCell (p:=⟨g2+1,1,none⟩) (by show _≤g2+1;omega) _).setCell (p:=⟨g2+1,2,none⟩) (by show _≤g2+1;omega) _).setCell (p:=⟨g2+1,3,none⟩) (by show _≤g2+1;omega) _).setCell (p:=⟨g2+1,4,none⟩) (by show _≤g2+1;omega) _).setCell (p:=⟨g2+1,5,none⟩) (by show _≤g2+1;omega) _
 have sb:∀k,k≠g2→k≠g2+1→W.heap[k]? =((w4.setCell ⟨gb,j,none⟩ (Value.int IntKind.u8 ↑v.toNat)).setCell ⟨gs,i,none⟩ (Value.slice (some ⟨gb,0,none⟩) 64 cb)).heap[k]? :=by
  intro k h1 h2;rw[hW];exact(Below.heap_setCell _ _ _ k h2).trans ((Below.heap_setCell _ _ _ k h2).trans ((Below.heap_setCell _ _ _ k h2).trans ((Below.heap_setCell _ _ _ k h2).trans ((Below.heap_setCell _ _ _ k h2).trans ((Below.heap_setCell _ _ _ k h2).trans (Below.heap_setCell _ _ _ k h1))))))
 have hrow:W.ownsRow (g2+1+1) 46 1 (.slice (some ⟨gs,0,none⟩) N iD) N ((qs.map (·.2)).set i (.slice (some ⟨gb,0,none⟩) 64 cb)):=by
  have h1:(w4.setCell ⟨gb,j,none⟩ (Value.int IntKind.u8 ↑v.toNat)).ownsRow (g2+1+1) 46 1 (.slice (some ⟨gs,0,none⟩) N iD) N (qs.map (·.2)):=
   own_same LN.out (fun k hk=>by
    have:gs=k:=by simpa [Value.ownBlock] using hk
    subst this;exact Below.heap_setCell _ _ _ _ (fun e=>n1 e.symm))
  refine own_same (h1.stored i (.slice (some ⟨gb,0,none⟩) 64 cb)).1 (fun k hk=>?_);have:gs=k:=by simpa [Value.ownBlock] using hk
  subst this;exact sb _ n4 n5
 have Gj:W.ownsRow w2.heap.size 5 1 (.slice (some ⟨gb,0,none⟩) 64 cb) 64 (bvs (l.set j v)):=by
  have h1:=(K8.out.stored j (bv v)).1;have e:(bvs l).set j (bv v)=bvs (l.set j v):=by simp[bvs,List.map_set]
  rw[e] at h1;have h2:=own_same (w':=(w4.setCell ⟨gb,j,none⟩ (Value.int IntKind.u8 ↑v.toNat)).setCell ⟨gs,i,none⟩ (Value.slice (some ⟨gb,0,none⟩) 64 cb)) h1 (fun k hk=>by
   have:gb=k:=by simpa [Value.ownBlock] using hk
   subst this;exact Below.heap_setCell _ _ _ _ n1)
  refine own_same h2 (fun k hk=>?_);have:gb=k:=by simpa [Value.ownBlock] using hk
  subst this;exact sb _ n2 n3
 have hlen:(l.set j v).length=64:=by rw[List.length_set];exact mM.out
 have DX:RAd A W (.slice (some ⟨gb,0,none⟩) 64 cb) (l.set j v):=by
  refine⟨RB.own (base:=w2.heap.size) (e:=5) (by rw[hlen];exact Gj),fun _ k hk ha=>?_⟩;have:gb=k:=by simpa [Value.ownBlock] using hk
  subst this;have:=HA.out _ ha;have:=G0.out;omega
 refine⟨_,rfl,⟨_,_,lf,cw,cf,by rw[←HF.out],?_,HL.out.below hbW,oo.out⟩,hbW⟩;refine⟨qs.set i (l.set j v,.slice (some ⟨gb,0,none⟩) 64 cb),?_,?_,fun q hq=>?_⟩
 ·rw[List.map_set,B7.out,I1.out]
 ·rw[List.map_set,List.length_set,←HN.out]
  exact RowD.own hrow (fun k hk _ ha=>by have:=HA.out k ha;omega)
 ·rcases List.mem_or_eq_of_mem_set hq with hq|rfl
  ·exact(Bv.out q hq).fr (D:=fun _=>False) (Fr.of_below hbW) (fun _ h=>h.elim) (fun _ h=> .inl h)
  ·exact DX
theorem refspoil_any{A:Nat→Prop}{w:World}{tv:Value}{s:Sim}(i a:Int)(v:UInt8)(h:TRd A w tv s)(hok:OK s)(hA:∀k,A k→k<w.heap.size):
  Calls Tryz.prog 26 #[tv,.int .i64 i,.int .i64 a,bv v] w (MadeD2 A w (s.spoil i a v) (.bool (s.can i a))):=by
 cases hc:s.can i a with
 |false=>
  have e:s.spoil i a v=s:=by simp[Sim.spoil,hc]
  rw[e];exact refspoil_no i a v h hc
 |true=>
  have e:s.spoil i a v={s with firm:=s.firm.set i.toNat ((s.firm.getD i.toNat []).set a.toNat v)}:=by simp[Sim.spoil,hc]
  rw[e];simp only[Sim.can,Bool.and_eq_true,decide_eq_true_eq,Sim.has_iff] at hc;obtain⟨k,rfl⟩:∃k:Nat,i=(k:Int):=⟨i.toNat,by omega⟩
  obtain⟨j,rfl⟩:∃j:Nat,a=(j:Int):=⟨a.toNat,by omega⟩
  exact refspoil_yes k j v h hok hA (by omega) (by omega)
end Go.Proofs.YtmbkaedhllfoeaaGreat
