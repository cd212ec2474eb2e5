/-
  Texts of the proof, put together.
-/
import Derived.RangeFuncNested
import Derived.RangeFuncBound
import Derived.RangeFuncCalls
import Derived.RangeFuncLeaves
import Derived.RangeFuncBox
import Derived.Shelf.Abstract
import Derived.Shelf.RegionOpen
import Derived.WalkKit
import Derived.OwnWalkIn
import Derived.TacticsInMore
import Derived.LoopNIn
import Derived.LoopIn
import Derived.Test.YtmbkaedhllfoeaaGreatKPC
import Derived.Test.YtmbkaedhllfoeaaGreatKPJ
set_option maxRecDepth 100000
set_option maxHeartbeats 4000000
set_option linter.unusedVariables false
namespace Go.Proofs.YtmbkaedhllfoeaaGreat
open Go.RowKit Go.Rst Go.Shelf
theorem grown_none{w w':World}(h:Below w.heap.size w w'):w.grownBy w' none:=⟨h.os,h.tape,h.output,h.size,fun k hk _=>h.block k hk⟩
structure KX (p:Nat→TypeId→Prop) (w w':World):Prop where
 size:w.heap.size≤w'.heap.size
 same:∀(k:Nat) (cs:Array Value) (t:TypeId) (f:Nat×Nat),p k t→w.heap[k]? =some (.cells cs t f)→w'.heap[k]? =some (.cells cs t f)
theorem KX.of_grown{p:Nat→TypeId→Prop}{w w':World}{row:Option Nat}(hg:w.grownBy w' row)(hr:∀r,row=some r→∃o:Obj,w.heap[r]? =some o∧o.isCells=false):KX p w w':=by
 refine⟨hg.size,fun k cs t f _ hk=>(hg.block k (Array.getElem?_eq_some_iff.1 hk).1 (fun he=>?_)).trans hk⟩;obtain⟨o,ho,hc⟩:=hr k he.symm;rw[hk] at ho;cases ho
 cases hc
theorem KX.below{p:Nat→TypeId→Prop}{w w':World}(h:Below w.heap.size w w'):KX p w w':=⟨h.size,fun k _ _ _ _ hk=>(h.block k (Array.getElem?_eq_some_iff.1 hk).1).trans hk⟩
theorem KX.own{p:Nat→TypeId→Prop}{w w':World}(h:KX p w w'){base size n:Nat}{e:TypeId}{v:Value}{xs:List Value}(ho:w.ownsRow base e size v n xs)(hp:∀g,v.ownBlock=some g→p g e):w'.ownsRow base e size v n xs:=by
 refine⟨ho.1,?_⟩;rcases ho.2 with h0|⟨g,cap,cur,rfl,hb,hg,rest⟩
 ·exact .inl h0
 ·exact .inr ⟨g,cap,cur,rfl,hb,h.same _ _ _ _ (hp g rfl) hg,rest⟩
theorem KX.fb{p:Nat→TypeId→Prop}{w w':World}(h:KX p w w'){base:Nat}{e:TypeId}{v:Value}{l:List UInt8}(hp:∀g,p g e)(hf:FB e w base v l):FB e w' base v l:=
 hf.block_ fun _ _ _ hg=>h.same _ _ _ _ (hp _) hg
theorem KX.boxed{p:Nat→TypeId→Prop}{w w':World}(h:KX p w w'){B:Nat}{t:TypeId}{v:Value}(hp:p B t)(hb:Boxed w B t v):Boxed w' B t v:=h.same _ _ _ _ hp hb
theorem KX.op{p:Nat→TypeId→Prop}{w w':World}(h:KX p w w'){base:Nat}{e eP:TypeId}{v:Value}{ps:List (List UInt8)}(h5:∀g,p g e)(hp:∀g,p g eP)(ho:OP e eP w base v ps):OP e eP w' base v ps:=by
 obtain⟨us,hu,ho,hf⟩:=ho;exact⟨us,hu,h.own ho (fun g _=>hp g),fun x hx=>h.fb h5 (hf x hx)⟩
theorem KX.or_{p:Nat→TypeId→Prop}{w w':World}(h:KX p w w'){base:Nat}{e eR:TypeId}{v:Value}{rs:List (ByteArray×List UInt8)}(h5:∀g,p g e)(hp:∀g,v.ownBlock=some g→p g eR)(ho:OR e eR w base v rs):OR e eR w' base v rs:=by
 obtain⟨us,hu,ho,hf⟩:=ho;exact⟨us,hu,h.own ho hp,fun x hx=>h.fb h5 (hf x hx)⟩
theorem appended_kx{W w1:World}{n₀ B:Nat}{t e:TypeId}{size:Nat}{v v':Value}{k m:Nat}{xs ys:List Value}{tmp:Obj}
  (hv:Boxed W B t v) (hte:t≠e) (hrow:W.ownsRow n₀ e size v k xs) (hn₀:n₀≤W.heap.size) (hB:n₀≤B)
  (hown':w1.ownsRow n₀ e size v' m ys) (hgrow:(W.alloc tmp).grownBy w1 v.ownBlock):KX (fun k t'=>(t'≠e∧t'≠t)∨k<n₀) W (w1.setCell ⟨B,0,none⟩ v'):=by
 obtain⟨hb1,_,_,_,ad⟩:=hv.appended hte hrow hn₀ hB hown' hgrow;refine⟨ad.size,fun k cs t' f hp hk=>?_⟩;rcases hp with ⟨h1,h2⟩|hlt
 ·have hk1:w1.heap[k]? =some (.cells cs t' f):=by
   have hka:(W.alloc tmp).heap[k]? =some (.cells cs t' f):=(Below.heap_alloc W tmp k (Array.getElem?_eq_some_iff.1 hk).1).trans hk;refine(hgrow.block k (Array.getElem?_eq_some_iff.1 hka).1 (fun he=>?_)).trans hka;rcases hrow.2 with ⟨rfl,_⟩|⟨g,cap,cur,rfl,_,hgb,_⟩
   ·simp[Value.ownBlock] at he
   ·obtain rfl:k=g:=by simpa [Value.ownBlock] using he
    rw[hk] at hgb;injection hgb with hgb;injection hgb with _ h3 _;exact h1 h3
  refine(Below.heap_setCell w1 _ v' k (fun he=>?_)).trans hk1;have he':k=B:=he;subst he';have:=(show w1.heap[k]? =_ from hb1).symm.trans hk1;injection this with this;injection this with _ h3 _;exact h2 h3.symm
 ·exact(ad.block k hlt).trans hk
theorem appended_kx1{W w1:World}{n₀:Nat}{e:TypeId}{size:Nat}{v:Value}{k:Nat}{xs:List Value}{tmp:Obj}
  (hrow:W.ownsRow n₀ e size v k xs) (hgrow:(W.alloc tmp).grownBy w1 v.ownBlock):KX (fun k t'=>t'≠e∨k<n₀) W w1:=by
 refine⟨Nat.le_trans (by simp) hgrow.size,fun k cs t' f hp hk=>?_⟩;have hka:(W.alloc tmp).heap[k]? =some (.cells cs t' f):=(Below.heap_alloc W tmp k (Array.getElem?_eq_some_iff.1 hk).1).trans hk;refine(hgrow.block k (Array.getElem?_eq_some_iff.1 hka).1 (fun he=>?_)).trans hka;rcases hrow.2 with ⟨rfl,_⟩|⟨g,cap,cur,rfl,hbg,hgb,_⟩
 ·simp[Value.ownBlock] at he
 ·obtain rfl:k=g:=by simpa [Value.ownBlock] using he
  rcases hp with h1|h1
  ·rw[hk] at hgb
   injection hgb with hgb;injection hgb with _ h3 _;exact h1 h3
  ·omega
def Marks(base hi:Nat)(W:World):List Deferred→Prop
 | []=>True
 |d::ds=>(∃D,d={target:= .collected D,args:=#[]}∧base≤D∧D<hi∧W.heap[D]? =some (.deferred (some []))∧∀d'∈ds,d'≠d)∧Marks base hi W ds
theorem Marks.keep{base hi:Nat}{W W':World}:∀{ds:List Deferred},Marks base hi W ds→(∀D,D<hi→W.heap[D]? =some (.deferred (some []))→W'.heap[D]? =some (.deferred (some [])))→Marks base hi W' ds
 | [],_,_=>trivial
 |_::_,⟨⟨D,h1,h2,h3,h4,h5⟩,hr⟩,hk=>⟨⟨D,h1,h2,h3,hk D h3 h4,h5⟩,hr.keep hk⟩
theorem Marks.wide{base hi hi':Nat}{W:World}(hh:hi≤hi'):∀{ds:List Deferred},Marks base hi W ds→Marks base hi' W ds
 | [],_=>trivial
 |_::_,⟨⟨D,h1,h2,h3,h4,h5⟩,hr⟩=>⟨⟨D,h1,h2,by omega,h4,h5⟩,hr.wide hh⟩
theorem Marks.ne{base hi:Nat}{W:World}{D:Nat}(hD:hi≤D):∀{ds:List Deferred},Marks base hi W ds→∀d∈ds,d≠{target:= .collected D,args:=#[]}
 | [],_,_,h=>by cases h
 |_::ds,⟨⟨D',h1,h2,h3,h4,h5⟩,hr⟩,d,hd=>by
  rcases List.mem_cons.1 hd with rfl|hd
  ·rw[h1]
   intro e;injection e with e _;injection e with e;omega
  ·exact hr.ne hD d hd
theorem Marks.far{base hi:Nat}{W:World}{D:Nat}(o:Obj):∀{ds:List Deferred},Marks base hi W ds→(∀d∈ds,d≠{target:= .collected D,args:=#[]})→Marks base hi (W.putObj D o) ds
 | [],_,_=>trivial
 |_::_,⟨⟨D',h1,h2,h3,h4,h5⟩,hr⟩,hn=>by
  refine⟨⟨D',h1,h2,h3,(World.putObj_heap_other (fun e=>?_)).trans h4,h5⟩,hr.far o (fun d hd=>hn d (List.mem_cons_of_mem _ hd))⟩;exact hn _ (List.mem_cons_self) (by rw[h1];subst e;rfl)
theorem KX.trans{p:Nat→TypeId→Prop}{A B C:World}(h:KX p A B)(k:KX p B C):KX p A C:=⟨Nat.le_trans h.size k.size,fun i cs t f hp hi=>k.same i cs t f hp (h.same i cs t f hp hi)⟩
theorem leaves_marks{F:Fence}{n:Nat}{P:Program}{fn:Func}{tmps:Array Value}{R:Ending→World→Prop}{base hi:Nat}:∀{ds:List Deferred} {W:World},Marks base hi W ds→
  (∀W',KX (fun _ _=>True) W W'→Below base W W'→∃v,(results fn tmps).run P W'= .ok v W'∧R (.returned v) W')→LeavesInM F n P fn tmps R ds .returning W
 | [],W,_,h=>h W (KX.below (Below.refl _ _)) (Below.refl _ _)
 |_::ds,W,⟨⟨D,rfl,h2,h3,h4,h5⟩,hr⟩,h=>by
  refine⟨by simp,.inl ⟨D,_,rfl,run_takeDeferred h4,?_⟩⟩;refine leaves_marks (base:=base) (hi:=hi) (hr.far _ h5) (fun W' hk hb=>h W' (KX.trans (KX.of_grown (grownBy_putObj' W D _) (fun r e=>by cases e;exact⟨_,h4,rfl⟩)) hk) (Below.trans ?_ hb));exact⟨rfl,rfl,rfl,by simp,fun k hk=>World.putObj_heap_other (by omega)⟩
end Go.Proofs.YtmbkaedhllfoeaaGreat
