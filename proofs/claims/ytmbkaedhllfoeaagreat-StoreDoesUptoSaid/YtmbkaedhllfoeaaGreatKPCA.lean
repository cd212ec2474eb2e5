/-
  Texts of the proof, put together.
-/
import Derived.Test.YtmbkaedhllfoeaaGreatProg
import Derived.Deep.MidRow
import Derived.Deep.Upon
import Derived.Below
import Derived.Laws.OwnMore
import Derived.Laws.Rows
import Derived.Lib.Hide
import Derived.Test.YtmbkaedhllfoeaaGreatKPC
import Derived.Test.YtmbkaedhllfoeaaGreatKPBJ
set_option maxRecDepth 100000
set_option maxHeartbeats 4000000
set_option linter.unusedVariables false
namespace Go.Proofs.YtmbkaedhllfoeaaGreat
open Go.RowKit Go.Rst
theorem info121:(Tryz.prog.info? 121).map (fun i=>(i.zero,i.size,i.bytes))=some (some (.agg (Array.replicate 64 (.int .u8 0))),64,64):=by kernel_rfl
theorem info123:(Tryz.prog.info? 123).map (fun i=>(i.zero,i.size,i.bytes))=some (some (.agg (#[.int .i64 0]++Array.replicate 64 (.int .u8 0))),65,72):=by kernel_rfl
theorem info3:(Tryz.prog.info? 3).map (fun i=>(i.zero,i.size,i.bytes))=some (some (.int .i64 0),1,8):=by kernel_rfl
end Go.Proofs.YtmbkaedhllfoeaaGreat
namespace Go.Dv
open Go.RowKit Go.Rst
def Blk(w:World)(g:Nat)(t:TypeId)(cs:Array Value):Prop:=w.heap[g]? =some (.cells cs t (0,0))
section
variable {w w':World} {g:Nat} {t:TypeId} {cs:Array Value}
theorem Blk.lt(h:Blk w g t cs):g<w.heap.size:=by
 rcases Nat.lt_or_ge g w.heap.size with hlt|hge
 ·exact hlt
 ·unfold Blk at h;rw[Array.getElem?_eq_none hge] at h;cases h
theorem Blk.cell(h:Blk w g t cs)(i:Nat):w.cell? ⟨g,i,none⟩=cs[i]? :=cell_of_row w g i cs t (0,0) h
theorem cl6{w:World}{g:Nat}{t:TypeId}{v0 v1 v2 v3 v4 v5:Value}(h:Blk w g t #[v0,v1,v2,v3,v4,v5]):w.cell? ⟨g,0,none⟩=some v0∧w.cell? ⟨g,1,none⟩=some v1∧w.cell? ⟨g,2,none⟩=some v2∧w.cell? ⟨g,3,none⟩=some v3∧w.cell? ⟨g,4,none⟩=some v4∧w.cell? ⟨g,5,none⟩=some v5:=⟨h.cell 0,h.cell 1,h.cell 2,h.cell 3,h.cell 4,h.cell 5⟩
theorem cl11{w:World}{g:Nat}{t:TypeId}{v0 v1 v2 v3 v4 v5 v6 v7 v8 v9 v10:Value}(h:Blk w g t #[v0,v1,v2,v3,v4,v5,v6,v7,v8,v9,v10]):w.cell? ⟨g,0,none⟩=some v0∧w.cell? ⟨g,1,none⟩=some v1∧w.cell? ⟨g,2,none⟩=some v2∧w.cell? ⟨g,3,none⟩=some v3∧w.cell? ⟨g,4,none⟩=some v4∧w.cell? ⟨g,5,none⟩=some v5∧w.cell? ⟨g,6,none⟩=some v6∧w.cell? ⟨g,7,none⟩=some v7∧w.cell? ⟨g,8,none⟩=some v8∧w.cell? ⟨g,9,none⟩=some v9∧w.cell? ⟨g,10,none⟩=some v10:=⟨h.cell 0,h.cell 1,h.cell 2,h.cell 3,h.cell 4,h.cell 5,h.cell 6,h.cell 7,h.cell 8,h.cell 9,h.cell 10⟩
theorem Blk.frozen(h:Blk w g t cs)(i:Nat):w.frozen? ⟨g,i,none⟩=false:=by
 unfold Blk at h;simp[World.frozen?,h]
theorem Blk.alloc(h:Blk w g t cs)(o:Obj):Blk (w.alloc o) g t cs:=(Below.heap_alloc w o g h.lt).trans h
theorem Blk.set_(h:Blk w g t cs)(i:Nat)(u:Value):Blk (w.setCell ⟨g,i,none⟩ u) g t (cs.setIfInBounds i u):=by
 unfold Blk at h⊢;simp[World.setCell,Array.getElem?_modify,h]
theorem Blk.far(h:Blk w g t cs){p:Addr}(hp:g≠p.block)(u:Value):Blk (w.setCell p u) g t cs:=(Below.heap_setCell w p u g hp).trans h
theorem Blk.below{B:Nat}(h:Blk w g t cs)(hb:Below B w w')(hg:g<B):Blk w' g t cs:=(hb.block g hg).trans h
theorem Blk.same(h:Blk w g t cs)(hb:w'.heap[g]? =w.heap[g]?):Blk w' g t cs:=hb.trans h
end
theorem setCells_size(b:Nat):∀(vs:List Value) (o:Nat) (w:World),(w.setCells b o vs).heap.size=w.heap.size
 | [],_,_=>rfl
 |v::r,o,w=>by rw[World.setCells,setCells_size b r];simp[World.setCell]
theorem setCells_other(b:Nat)(k:Nat)(h:k≠b):∀(vs:List Value) (o:Nat) (w:World),(w.setCells b o vs).heap[k]? =w.heap[k]?
 | [],_,_=>rfl
 |v::r,o,w=>by rw[World.setCells,setCells_other b k h r];exact Below.heap_setCell _ _ _ _ h
theorem setCells_str(b:Nat):∀(vs:List Value) (o:Nat) (w:World),(w.setCells b o vs).os=w.os∧(w.setCells b o vs).tape=w.tape∧(w.setCells b o vs).output=w.output
 | [],_,_=>⟨rfl,rfl,rfl⟩
 |v::r,o,w=>by rw[World.setCells];exact setCells_str b r _ _
structure Fr (D:Nat→Prop) (w w':World):Prop where
 os:w'.os=w.os
 tape:w'.tape=w.tape
 output:w'.output=w.output
 size:w.heap.size≤w'.heap.size
 block:∀k,k<w.heap.size→¬D k→w'.heap[k]? =w.heap[k]?
section
variable {D E:Nat→Prop} {a w w':World}
theorem Fr.refl(D:Nat→Prop)(w:World):Fr D w w:=⟨rfl,rfl,rfl,Nat.le_refl _,fun _ _ _=>rfl⟩
theorem Fr.trans(h:Fr D a w)(k:Fr E w w')(hD:∀j,E j→D j∨a.heap.size≤j):Fr D a w':=
 ⟨k.os.trans h.os,k.tape.trans h.tape,k.output.trans h.output,Nat.le_trans h.size k.size,fun j hj hn=>
  (k.block j (Nat.lt_of_lt_of_le hj h.size) (fun he=>by rcases hD j he with hd|hd;exact hn hd;omega)).trans (h.block j hj hn)⟩
theorem Fr.of_below(h:Below w.heap.size w w'):Fr D w w':=⟨h.os,h.tape,h.output,h.size,fun k hk _=>h.block k hk⟩
theorem Fr.below{B:Nat}(h:Fr D w w')(hD:∀k,D k→B≤k)(hB:B≤w.heap.size):Below B w w':=
 ⟨h.os,h.tape,h.output,h.size,fun k hk=>h.block k (by omega) (fun hd=>by have:=hD k hd;omega)⟩
theorem Fr.mono(h:Fr D w w')(hD:∀k,D k→E k):Fr E w w':=⟨h.os,h.tape,h.output,h.size,fun k hk hn=>h.block k hk (fun hd=>hn (hD k hd))⟩
theorem Fr.alloc(h:Fr D a w)(o:Obj):Fr D a (w.alloc o):=h.trans (E:=fun _=>False) (Fr.of_below ((Below.refl _ _).alloc (Nat.le_refl _) o)) (fun _ h=>h.elim)
theorem Fr.setCell(h:Fr D a w){p:Addr}(hp:D p.block∨a.heap.size≤p.block)(u:Value):Fr D a (w.setCell p u):=
 h.trans (E:=fun k=>k=p.block) ⟨rfl,rfl,rfl,by simp[World.setCell],fun k _ hk=>Below.heap_setCell _ _ _ _ hk⟩ (fun k hk=>hk▸hp)
theorem Fr.setCells(h:Fr D a w){b:Nat}(hp:D b∨a.heap.size≤b)(o:Nat)(vs:List Value):Fr D a (w.setCells b o vs):=
 h.trans (E:=fun k=>k=b) ⟨(setCells_str b vs o w).1,(setCells_str b vs o w).2.1,(setCells_str b vs o w).2.2,by rw[setCells_size];exact Nat.le_refl _,fun k _ hk=>setCells_other b k hk vs o w⟩ (fun k hk=>hk▸hp)
theorem Fr.drew(h:Fr D a w):Fr D a w.drew:=⟨h.os,h.tape,h.output,h.size,h.block⟩
theorem Fr.setRow(h:Fr D a w){b:Nat}(hp:D b∨a.heap.size≤b)(cs:Array Value):Fr D a (w.setRow b cs):=
 h.trans (E:=fun k=>k=b) ⟨rfl,rfl,rfl,by simp,fun k _ hk=>setRow_other w b k cs hk⟩ (fun k hk=>hk▸hp)
theorem Fr.grown{row:Option Nat}(h:Fr D a w)(hg:w.grownBy w' row)(hr:∀k,row=some k→D k∨a.heap.size≤k):Fr D a w':=
 h.trans (E:=fun k=>row=some k) ⟨hg.os,hg.tape,hg.output,hg.size,fun k hk hn=>hg.block k hk (fun e=>hn e.symm)⟩ hr
end
theorem own_same{w w':World}{base:Nat}{e:TypeId}{size:Nat}{v:Value}{n:Nat}{xs:List Value}(h:w.ownsRow base e size v n xs)(hb:∀k,v.ownBlock=some k→w'.heap[k]? =w.heap[k]?):w'.ownsRow base e size v n xs:=by
 refine⟨h.1,?_⟩;rcases h.2 with h0|⟨g,cap,cur,rfl,hbg,hg,rest⟩
 ·exact .inl h0
 ·exact .inr ⟨g,cap,cur,rfl,hbg,(hb g rfl).trans hg,rest⟩
def setL(xs:List Value):Nat→List Value→List Value
 |_,[]=>xs
 |o,v::r=>setL (xs.set o v) (o+1) r
theorem setL_eq:∀(vs:List Value) (o:Nat) (xs:List Value),o+vs.length≤xs.length→setL xs o vs=xs.take o++vs++xs.drop (o+vs.length)
 | [],o,xs,_=>by simp[setL]
 |v::r,o,xs,h=>by
  rw[setL,setL_eq r (o+1) (xs.set o v) (by simp at h⊢;omega)];have:=list_seg_step xs o v r (by simpa using h)
  simpa [Nat.add_assoc] using this
theorem own_setCells{base:Nat}{e:TypeId}{size g n cap:Nat}:∀(vs:List Value) (o:Nat) (w:World) (xs:List Value),w.ownsRow base e size (.slice (some ⟨g,0,none⟩) n cap) n xs→(w.setCells g o vs).ownsRow base e size (.slice (some ⟨g,0,none⟩) n cap) n (setL xs o vs)
 | [],_,_,_,h=>h
 |v::r,o,_,_,h=>own_setCells r (o+1) _ _ (h.stored o v).1
def iv(k:Nat):Value:= .int .i64 (k:Int)
def wc(x:Wr):List Value:=iv x.1::bvs x.2
def fcs(F:List (List UInt8)):List Value:=(F.map bvs).flatten
def wcs(L:List Wr):List Value:=(L.map wc).flatten
theorem wcs_append(L:List Wr)(x:Wr):wcs (L++ [x])=wcs L++wc x:=by simp[wcs]
theorem fcs_get{F:List (List UInt8)}(h:∀x∈F,x.length=64){i j:Nat}(hi:i<F.length)(hj:j<64):(fcs F)[i*64+j]? =(bvs F[i])[j]? :=by
 have:=flat_get (m:=64) (L:=F.map bvs) (fun x hx=>by obtain⟨y,hy,rfl⟩:=List.mem_map.1 hx;rw[bvs_length];exact h y hy) (i:=i) (j:=j) (by simpa using hi) hj;rw[fcs,this];simp
theorem wcs_get{L:List Wr}(h:∀x∈L,x.2.length=64){i j:Nat}(hi:i<L.length)(hj:j<65):(wcs L)[i*65+j]? =(wc L[i])[j]? :=by
 have:=flat_get (m:=65) (L:=L.map wc) (fun x hx=>by obtain⟨y,hy,rfl⟩:=List.mem_map.1 hx;simp[wc,bvs_length,h y hy]) (i:=i) (j:=j) (by simpa using hi) hj;rw[wcs,this];simp
theorem fcs_length{F:List (List UInt8)}(h:∀x∈F,x.length=64):(fcs F).length=F.length*64:=by
 have:=flat_length (m:=64) (L:=F.map bvs) (fun x hx=>by obtain⟨y,hy,rfl⟩:=List.mem_map.1 hx;rw[bvs_length];exact h y hy);rw[fcs,this];simp
theorem fcs_set{F:List (List UInt8)}(h:∀x∈F,x.length=64){i:Nat}{d:List UInt8}(hi:i<F.length)(hd:d.length=64):setL (fcs F) (i*64) (bvs d)=fcs (F.set i d):=by
 have hl:=fcs_length h;have e:=flat_set (m:=64) (L:=F.map bvs) (fun x hx=>by obtain⟨y,hy,rfl⟩:=List.mem_map.1 hx;rw[bvs_length];exact h y hy) (i:=i) (d:=bvs d) (by simpa using hi) (by rw[bvs_length];exact hd);rw[setL_eq _ _ _ (by rw[bvs_length,hl,hd];have:(i+1)*64≤F.length*64:=Nat.mul_le_mul_right _ hi;omega),bvs_length,hd];unfold fcs;rw[List.map_set,e]
theorem wc_one(x:Wr):∀u∈wc x,u.oneCell'=true:=by
 intro u hu;rcases List.mem_cons.1 hu with rfl|hu
 ·rfl
 ·exact bvs_one u hu
structure Lay where
 g:Nat
 gF:Nat
 gN:Nat
 cF:Nat
 cN:Nat
 A:Option Addr
 c:Nat
 lf:Int
def dcs(y:Lay)(nF nL nN:Nat)(f:Bool)(a b:Nat):Array Value:=
 #[.slice (some ⟨y.gF,0,none⟩) nF y.cF,.slice y.A nL y.c,.slice (some ⟨y.gN,0,none⟩) nN y.cN,.bool f,.int .i64 y.lf,.complex .f64 (a) (b)]
structure Raw (D:Nat→Prop) (w:World) (y:Lay) (F:List (List UInt8)) (L:List Wr) (N:List Nat) (f:Bool) (a b:Nat):Prop where
 bd:Blk w y.g 119 (dcs y F.length L.length N.length f a b)
 rf:w.ownsRow 0 121 64 (.slice (some ⟨y.gF,0,none⟩) F.length y.cF) F.length (fcs F)
 rl:w.ownsRow 0 123 65 (.slice y.A L.length y.c) L.length (wcs L)
 rn:w.ownsRow 0 3 1 (.slice (some ⟨y.gN,0,none⟩) N.length y.cN) N.length (N.map iv)
 dg:D y.g
 dF:D y.gF
 dN:D y.gN
 dA:∀p,y.A=some p→D p.block
 lt:∀k,D k→k<w.heap.size
 n1:y.g≠y.gF
 n2:y.g≠y.gN
 n3:y.gF≠y.gN
 n4:∀p,y.A=some p→p.block≠y.g∧p.block≠y.gF∧p.block≠y.gN
section
variable {D:Nat→Prop} {w w':World} {y:Lay} {F:List (List UInt8)} {L:List Wr} {N:List Nat} {f:Bool} {a b:Nat}
theorem ownBlock_some{p:Option Addr}{n c k:Nat}(h:Value.ownBlock (.slice p n c)=some k):∃q,p=some q∧q.block=k:=by
 cases p with
 |none=>simp[Value.ownBlock] at h
 |some q=>exact⟨q,rfl,by simpa [Value.ownBlock] using h⟩
theorem Raw.same(h:Raw D w y F L N f a b)(hb:∀k,D k→w'.heap[k]? =w.heap[k]?)(hs:w.heap.size≤w'.heap.size):Raw D w' y F L N f a b:=
 ⟨h.bd.same (hb _ h.dg),own_same h.rf (fun k hk=>by obtain⟨q,e,rfl⟩:=ownBlock_some hk;injection e with e;subst e;exact hb _ h.dF),
  own_same h.rl (fun k hk=>by obtain⟨q,e,rfl⟩:=ownBlock_some hk;exact hb _ (h.dA q e)),
  own_same h.rn (fun k hk=>by obtain⟨q,e,rfl⟩:=ownBlock_some hk;injection e with e;subst e;exact hb _ h.dN),
  h.dg,h.dF,h.dN,h.dA,fun k hk=>Nat.lt_of_lt_of_le (h.lt k hk) hs,h.n1,h.n2,h.n3,h.n4⟩
theorem Raw.below(h:Raw D w y F L N f a b)(hb:Below w.heap.size w w'):Raw D w' y F L N f a b:=h.same (fun k hk=>hb.block k (h.lt k hk)) hb.size
theorem Raw.fr{E:Nat→Prop}(h:Raw D w y F L N f a b)(hb:Fr E w w')(hE:∀k,E k→¬D k):Raw D w' y F L N f a b:=
 h.same (fun k hk=>hb.block k (h.lt k hk) (fun he=>hE k he hk)) hb.size
theorem Raw.alloc(h:Raw D w y F L N f a b)(o:Obj):Raw D (w.alloc o) y F L N f a b:=h.below ((Below.refl _ _).alloc (Nat.le_refl _) o)
theorem Raw.farL(h:Raw D w y F L N f a b){g:Nat}(hp:¬D g)(o:Nat)(vs:List Value):Raw D (w.setCells g o vs) y F L N f a b:=
 h.same (fun k hk=>setCells_other g k (fun e=>hp (e▸hk)) vs o w) (by rw[setCells_size];exact Nat.le_refl _)
theorem Raw.head(h:Raw D w y F L N f a b)(i:Nat)(u:Value)(qt:Int)(f':Bool)(a' b':Nat)
  (hd:(dcs y F.length L.length N.length f a b).setIfInBounds i u=dcs {y with lf:=qt} F.length L.length N.length f' a' b'):
  Raw D (w.setCell ⟨y.g,i,none⟩ u) {y with lf:=qt} F L N f' a' b':=by
 have hs:∀k,k≠y.g→(w.setCell ⟨y.g,i,none⟩ u).heap[k]? =w.heap[k]? :=fun k hk=>Below.heap_setCell _ _ _ _ hk
 refine⟨?_,own_same h.rf (fun k hk=>?_),own_same h.rl (fun k hk=>?_),own_same h.rn (fun k hk=>?_),h.dg,h.dF,h.dN,h.dA,fun k hk=>by simpa [World.setCell] using h.lt k hk,h.n1,h.n2,h.n3,h.n4⟩
 ·have:=h.bd.set_ i u
  rw[hd] at this;exact this
 ·obtain⟨q,e,rfl⟩:=ownBlock_some hk;injection e with e;subst e;exact hs _ (fun e=>h.n1 e.symm)
 ·obtain⟨q,e,rfl⟩:=ownBlock_some hk;exact hs _ (h.n4 q e).1
 ·obtain⟨q,e,rfl⟩:=ownBlock_some hk;injection e with e;subst e;exact hs _ (fun e=>h.n2 e.symm)
theorem Raw.setLeft(h:Raw D w y F L N f a b)(v:Int):Raw D (w.setCell ⟨y.g,4,none⟩ (.int .i64 v)) {y with lf:=v} F L N f a b:=h.head 4 _ v f a b rfl
theorem Raw.setFlag(h:Raw D w y F L N f a b)(v:Bool):Raw D (w.setCell ⟨y.g,3,none⟩ (.bool v)) y F L N v a b:=h.head 3 _ y.lf v a b rfl
theorem Raw.setTraf(h:Raw D w y F L N f a b)(a' b':Nat):Raw D (w.setCell ⟨y.g,5,none⟩ (.complex .f64 (a') (b'))) y F L N f a' b':=h.head 5 _ y.lf f a' b' rfl
theorem Raw.clear(h:Raw D w y F L N f a b):Raw D (w.setCell ⟨y.g,1,none⟩ (.slice none 0 0)) {y with A:=none,c:=0} F [] N f a b:=by
 have hs:∀k,k≠y.g→(w.setCell ⟨y.g,1,none⟩ (.slice none 0 0)).heap[k]? =w.heap[k]? :=fun k hk=>Below.heap_setCell _ _ _ _ hk
 refine⟨?_,own_same h.rf (fun k hk=>?_),World.ownsRow_nil _ _ _ _,own_same h.rn (fun k hk=>?_),h.dg,h.dF,h.dN,fun p hp=>(by cases hp),fun k hk=>(by simpa [World.setCell] using h.lt k hk),h.n1,h.n2,h.n3,fun p hp=>(by cases hp)⟩
 ·exact h.bd.set_ 1 _
 ·obtain⟨q,e,rfl⟩:=ownBlock_some hk;injection e with e;subst e;exact hs _ (fun e=>h.n1 e.symm)
 ·obtain⟨q,e,rfl⟩:=ownBlock_some hk;injection e with e;subst e;exact hs _ (fun e=>h.n2 e.symm)
theorem Raw.setFirm(h:Raw D w y F L N f a b)(hF:∀x∈F,x.length=64){i:Nat}{d:List UInt8}(hi:i<F.length)(hd:d.length=64):Raw D (w.setCells y.gF (i*64) (bvs d)) y (F.set i d) L N f a b:=by
 have hs:∀k,k≠y.gF→(w.setCells y.gF (i*64) (bvs d)).heap[k]? =w.heap[k]? :=fun k hk=>setCells_other _ k hk _ _ _
 refine⟨?_,?_,own_same h.rl (fun k hk=>?_),own_same h.rn (fun k hk=>?_),h.dg,h.dF,h.dN,h.dA,fun k hk=>by rw[setCells_size];exact h.lt k hk,h.n1,h.n2,h.n3,h.n4⟩
 ·rw[List.length_set];exact h.bd.same (hs _ h.n1)
 ·have:=own_setCells (bvs d) (i*64) w _ h.rf
  rw[fcs_set hF hi hd] at this;rw[List.length_set];exact this
 ·obtain⟨q,e,rfl⟩:=ownBlock_some hk;exact hs _ (h.n4 q e).2.1
 ·obtain⟨q,e,rfl⟩:=ownBlock_some hk;injection e with e;subst e;exact hs _ (fun e=>h.n3 e.symm)
theorem Raw.setNew(h:Raw D w y F L N f a b)(i k:Nat):Raw D (w.setCell ⟨y.gN,i,none⟩ (iv k)) y F L (N.set i k) f a b:=by
 have hs:∀k',k'≠y.gN→(w.setCell ⟨y.gN,i,none⟩ (iv k)).heap[k']? =w.heap[k']? :=fun k' hk=>Below.heap_setCell _ _ _ _ hk
 refine⟨?_,own_same h.rf (fun k hk=>?_),own_same h.rl (fun k hk=>?_),?_,h.dg,h.dF,h.dN,h.dA,fun k hk=>by simpa [World.setCell] using h.lt k hk,h.n1,h.n2,h.n3,h.n4⟩
 ·rw[List.length_set];exact h.bd.same (hs _ h.n2)
 ·obtain⟨q,e,rfl⟩:=ownBlock_some hk;injection e with e;subst e;exact hs _ h.n3
 ·obtain⟨q,e,rfl⟩:=ownBlock_some hk;exact hs _ (h.n4 q e).2.2
 ·have:=(h.rn.stored i (iv k)).1
  rw[←List.map_set] at this;rw[List.length_set];exact this
theorem Raw.c0(h:Raw D w y F L N f a b):w.cell? ⟨y.g,0,none⟩=some (.slice (some ⟨y.gF,0,none⟩) F.length y.cF):=h.bd.cell 0
theorem Raw.c1(h:Raw D w y F L N f a b):w.cell? ⟨y.g,1,none⟩=some (.slice y.A L.length y.c):=h.bd.cell 1
theorem Raw.c2(h:Raw D w y F L N f a b):w.cell? ⟨y.g,2,none⟩=some (.slice (some ⟨y.gN,0,none⟩) N.length y.cN):=h.bd.cell 2
theorem Raw.c3(h:Raw D w y F L N f a b):w.cell? ⟨y.g,3,none⟩=some (.bool f):=h.bd.cell 3
theorem Raw.c4(h:Raw D w y F L N f a b):w.cell? ⟨y.g,4,none⟩=some (.int .i64 y.lf):=h.bd.cell 4
theorem Raw.c5(h:Raw D w y F L N f a b):w.cell? ⟨y.g,5,none⟩=some (.complex .f64 (a) (b)):=h.bd.cell 5
theorem Raw.firmAt(h:Raw D w y F L N f a b)(hF:∀x∈F,x.length=64){i:Nat}(hi:i<F.length):w.rangeAt y.gF (i*64) (bvs (F.getD i [])):=fun j v hv=>by
 have BC:(F.getD i []).length=64:=by rw[List.getD_eq_getElem?_getD,List.getElem?_eq_getElem hi];exact hF _ (List.getElem_mem hi)
 have hj:j<64:=by have:=(List.getElem?_eq_some_iff.1 hv).1;rw[bvs_length,BC] at this;exact this
 rw[h.rf.cellAt _ (by have:(i+1)*64≤F.length*64:=Nat.mul_le_mul_right _ hi;omega),fcs_get hF hi hj,←hv,List.getD_eq_getElem?_getD,List.getElem?_eq_getElem hi];rfl
theorem Raw.firmThere(h:Raw D w y F L N f a b)(hF:∀x∈F,x.length=64){i:Nat}(hi:i<F.length):w.there y.gF (i*64) 64:=fun j hj=>by
 refine⟨?_,h.rf.frozenAt _⟩;have BC:(F.getD i []).length=64:=by rw[List.getD_eq_getElem?_getD,List.getElem?_eq_getElem hi];exact hF _ (List.getElem_mem hi)
 rw[h.firmAt hF hi j _ (List.getElem?_eq_getElem (by rw[bvs_length,BC];exact hj))];rfl
theorem Raw.looseAt(h:Raw D w y F L N f a b)(hL:∀x∈L,x.2.length=64){k:Nat}(hk:k<L.length):∃gL,y.A=some ⟨gL,0,none⟩∧gL≠y.g∧gL≠y.gF∧gL≠y.gN∧w.rangeAt gL (k*65) (wc (wat L k)):=by
 rcases h.rl.2 with ⟨_,h0⟩|⟨g,cap,cur,h1,_,hg,_⟩
 ·omega
 ·injection h1 with h1 _ h2
  have hn:=h.n4 _ h1;refine⟨g,h1,hn.1,hn.2.1,hn.2.2,fun j v hv=>?_⟩;have hj:j<65:=by have:=(List.getElem?_eq_some_iff.1 hv).1;simp only[wc,List.length_cons,bvs_length] at this;rw[hL _ (wat_mem hk)] at this;exact this
  have hrl:=h.rl;rw[h1] at hrl;rw[hrl.cellAt _ (by have:(k+1)*65≤L.length*65:=Nat.mul_le_mul_right _ hk;omega),wcs_get hL hk hj,←hv,wat_in hk]
theorem Raw.newAt(h:Raw D w y F L N f a b){i k:Nat}(hi:N[i]? =some k):w.cell? ⟨y.gN,i,none⟩=some (iv k):=by
 have hlt:i<N.length:=(List.getElem?_eq_some_iff.1 hi).1;rw[h.rn.cellAt i (by omega),List.getElem?_map,hi];rfl
end
theorem bvs_all(l:List UInt8):(bvs l).toArray.all (·.oneCell')=true:=all_oneCell_toArray bvs_one
theorem wc_all(x:Wr):(wc x).toArray.all (·.oneCell')=true:=all_oneCell_toArray (wc_one x)
theorem wc_length{x:Wr}(h:x.2.length=64):(wc x).length=65:=by simp[wc,bvs_length,h]
def Dev(D:Nat→Prop)(w:World)(v:Value)(s:Sim):Prop:=
 ∃y:Lay,v= .pointer (some ⟨y.g,0,none⟩)∧Raw D w y s.firm s.loose (newL s.firm.length s.loose) s.fuse.isSome s.nw s.nf∧OK s∧∀k,s.fuse=some k→y.lf=(k:Int)
def Did(D:Nat→Prop)(w:World)(v:Value)(s:Sim)(w':World):Prop:=∃E:Nat→Prop,Dev E w' v s∧Fr D w w'∧∀k,E k→D k∨w.heap.size≤k
section
variable {D:Nat→Prop} {w w':World} {v:Value} {s:Sim}
theorem Dev.below(h:Dev D w v s)(hb:Below w.heap.size w w'):Dev D w' v s:=by
 obtain⟨y,h1,h2,h3⟩:=h;exact⟨y,h1,h2.below hb,h3⟩
theorem Dev.fr{E:Nat→Prop}(h:Dev D w v s)(hb:Fr E w w')(hE:∀k,E k→¬D k):Dev D w' v s:=by
 obtain⟨y,h1,h2,h3⟩:=h;exact⟨y,h1,h2.fr hb hE,h3⟩
theorem Dev.lt(h:Dev D w v s):∀k,D k→k<w.heap.size:=by
 obtain⟨y,h1,h2,h3⟩:=h;exact h2.lt
theorem Dev.ok(h:Dev D w v s):OK s:=by obtain⟨y,h1,h2,h3,h4⟩:=h;exact h3
theorem Did.same(h:Dev D w' v s)(hf:Fr D w w'):Did D w v s w':=⟨D,h,hf,fun _ h=> .inl h⟩
def Own(B:Nat)(w:World)(v:Value)(s:Sim):Prop:=∃D:Nat→Prop,Dev D w v s∧(∀k,D k→B≤k)∧B≤w.heap.size
theorem Own.did{B:Nat}{D:Nat→Prop}(hD:∀k,D k→B≤k)(hB:B≤w.heap.size)(h:Did D w v s w'):Own B w' v s∧Below B w w':=by
 obtain⟨E,h1,h2,h3⟩:=h;exact⟨⟨E,h1,fun k hk=>by rcases h3 k hk with h4|h4;exact hD k h4;omega,Nat.le_trans hB h2.size⟩,h2.below hD hB⟩
end
end Go.Dv
