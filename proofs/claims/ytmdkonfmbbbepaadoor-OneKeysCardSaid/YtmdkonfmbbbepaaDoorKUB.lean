/-
  Words on bytes that lie in memory, over the seat's program, without any of its functions.; The contract of the document's own split (layer topic).; The contract of the document's own pairs (layer topic).; Plain mathematics of states, without any program: subscriptions, messages, what may be, what is put.; Plain mathematics of what the statements of states ask: what is put is found, what is settled, in which order. No program.; Words on rows that lie in memory, over the seat's program, without any of its functions.; Words on pages that lie in memory: a slice of slices of bytes. No program but the seat's types.; Words on rows of the call's own: joined, as a source, cell by cell.; The contract of code.Num: it makes the bytes of the clipped number, for every number.; The contract of code.Text: how many bytes a text has, and these, for every text of at most a billion bytes.; The contracts of code.GetNum and code.GetText: at any place of any bytes they tell what the plain functions getNum and getText tell, and change nothing.; Words on rows of the call's own of which one is set anew. No program but the seat's types.; Plain mathematics of what may be: names, queues, subscriptions (layer state). No program.; Plain mathematics of the statements' own Sub: what is made may be. No program.
-/
import Derived.Test.YtmdkonfmbbbepaaDoorProg
import Derived.Test.YtmdkonfmbbbepaaDoorKUA
set_option linter.unusedVariables false
namespace Go.Proofs.YtmdkonfmbbbepaaDoor
open Go.RowKit Go.Rst
theorem info5 : (Tryd.prog.info? 5).map (fun i => (i.zero, i.size, i.bytes)) = some (some (.int .u8 0), 1, 1) := by kernel_rfl
def Blk (w : World) (g : Nat) (t : TypeId) (cs : Array Value) : Prop := w.heap[g]? = some (.cells cs t (0, 0))
section
variable {w w' : World} {g : Nat} {t : TypeId} {cs : Array Value}
theorem Blk.lt (h : Blk w g t cs) : g < w.heap.size := by
  rcases Nat.lt_or_ge g w.heap.size with hlt | hge
  · exact hlt
  · unfold Blk at h; rw [Array.getElem?_eq_none hge] at h; cases h
theorem Blk.cell (h : Blk w g t cs) (i : Nat) : w.cell? ⟨g, i, none⟩ = cs[i]? := cell_of_row w g i cs t (0, 0) h
theorem Blk.frozen (h : Blk w g t cs) (i : Nat) : w.frozen? ⟨g, i, none⟩ = false := by
  unfold Blk at h
  simp [World.frozen?, h]
theorem Blk.alloc (h : Blk w g t cs) (o : Obj) : Blk (w.alloc o) g t cs := (Below.heap_alloc w o g h.lt).trans h
theorem Blk.far (h : Blk w g t cs) {p : Addr} (hp : g ≠ p.block) (u : Value) : Blk (w.setCell p u) g t cs := (Below.heap_setCell w p u g hp).trans h
theorem Blk.below {B : Nat} (h : Blk w g t cs) (hb : Below B w w') (hg : g < B) : Blk w' g t cs := (hb.block g hg).trans h
end
theorem str22 {w : World} {v : Value} {l : List UInt8} (h : RB w v l) : (convert 22 9 v).run Tryd.prog w = .ok (.string ⟨l.toArray⟩) w := h.str Tryd.underlying22 Tryd.underlying5 Tryd.underlying9
theorem rb_cell {w : World} {A : Option Addr} {c : Nat} {l : List UInt8} (h : RB w (.slice A l.length c) l) {k : Nat} (hk : k < l.length) :
    ∃ b off, A = some ⟨b, off, none⟩ ∧ b < w.heap.size ∧ w.cell? ⟨b, off + k, none⟩ = some (bv l[k]) := by
  obtain ⟨A', c', he, _, _, h3⟩ := h
  injection he with e1 e2 e3
  subst e1
  rcases h3 with h3 | ⟨b, off, h4, h5, h6⟩
  · rw [h3] at hk; simp at hk
  · exact ⟨b, off, h4, h5, h6 k hk⟩
end Go.Proofs.YtmdkonfmbbbepaaDoor
set_option linter.unusedVariables false
namespace Go.Proofs.YtmdkonfmbbbepaaDoor
open Go.RowKit Go.Rst Go.Tp
theorem ext_cat (a b : List UInt8) : (⟨a.toArray⟩ : ByteArray) ++ ⟨b.toArray⟩ = ⟨(a ++ b).toArray⟩ := by
  apply ByteArray.ext
  simp [ByteArray.data_append]
def svs (ps : List (List UInt8)) : List Value := ps.map fun p => .string ⟨p.toArray⟩
structure Spl (c : UInt8) (l : List UInt8) (f k : Nat) (ps : List (List UInt8)) : Prop where
  fk : f ≤ k
  kl : k ≤ l.length
  pf : ps.length ≤ f
  cl : ∀ x ∈ (l.drop f).take (k - f), x ≠ c
  eq : splitL c l = ps ++ splitL c (l.drop f)
theorem Spl.start (c : UInt8) (l : List UInt8) : Spl c l 0 0 [] := ⟨Nat.le_refl _, Nat.zero_le _, Nat.le_refl _, fun x hx => by simp at hx, by simp⟩
theorem Spl.on {c : UInt8} {l : List UInt8} {f k : Nat} {ps : List (List UInt8)} (h : Spl c l f k ps) (hk : k < l.length) (hx : l[k] ≠ c) : Spl c l f (k + 1) ps := by
  have hfk := h.fk
  refine ⟨by omega, hk, h.pf, fun x hx2 => ?_, h.eq⟩
  have e : (l.drop f).take (k + 1 - f) = (l.drop f).take (k - f) ++ [l[k]] := by
    have e1 : k + 1 - f = (k - f) + 1 := by omega
    have h1 : k - f < (l.drop f).length := by rw [List.length_drop]; omega
    rw [e1, List.take_succ_eq_append_getElem h1]
    congr 2
    rw [List.getElem_drop]
    congr 1
    omega
  rw [e] at hx2
  rcases List.mem_append.1 hx2 with h2 | h2
  · exact h.cl x h2
  · rw [List.mem_singleton.1 h2]; exact hx
theorem drop_cut {l : List UInt8} {f k : Nat} (hfk : f ≤ k) (hk : k < l.length) : l.drop f = (l.drop f).take (k - f) ++ l[k] :: l.drop (k + 1) := by
  have h1 : k - f < (l.drop f).length := by rw [List.length_drop]; omega
  conv => lhs; rw [← List.take_append_drop (k - f) (l.drop f)]
  congr 1
  rw [List.drop_drop, show f + (k - f) = k by omega, List.drop_eq_getElem_cons hk]
theorem Spl.cut {c : UInt8} {l : List UInt8} {f k : Nat} {ps : List (List UInt8)} (h : Spl c l f k ps) (hk : k < l.length) (hx : l[k] = c) : Spl c l (k + 1) (k + 1) (ps ++ [(l.drop f).take (k - f)]) := by
  have hfk := h.fk
  have hpf := h.pf
  refine ⟨Nat.le_refl _, hk, by simp; omega, fun x hx => by simp at hx, ?_⟩
  have e := h.eq
  rw [drop_cut hfk hk, hx, splitL_part c _ h.cl] at e
  rw [e]
  simp
theorem Spl.last {c : UInt8} {l : List UInt8} {f : Nat} {ps : List (List UInt8)} (h : Spl c l f l.length ps) : splitL c l = ps ++ [(l.drop f).take (l.length - f)] := by
  rw [h.eq]
  congr 1
  have e : (l.drop f).take (l.length - f) = l.drop f := by rw [List.take_of_length_le]; simp
  have h2 := h.cl
  rw [e] at h2 ⊢
  exact splitL_last c _ h2
theorem ext_str (l : List UInt8) (f k : Nat) : (⟨l.toArray⟩ : ByteArray).extract f k = ⟨((l.drop f).take (k - f)).toArray⟩ := by
  apply ByteArray.ext
  rw [ByteArray.data_extract]
  simp
end Go.Proofs.YtmdkonfmbbbepaaDoor
set_option linter.unusedVariables false
namespace Go.Tp
open Go
def leS (a b : List UInt8) : Bool := Op.bytesLess a b || a == b
def pairOk (last p : List UInt8) : Bool := match splitL 61 p with
  | [a, b] => wordB a && wordB b && !leS a last
  | _ => false
def firstOf (p : List UInt8) : List UInt8 := (splitL 61 p).headD []
def pairsP : List UInt8 → List (List UInt8) → Bool
  | _, [] => true
  | last, p :: ps => pairOk last p && pairsP (firstOf p) ps
def pairsR (l : List UInt8) : List (List UInt8) × Bool := if l = [] then ([], true) else if pairsP [] (splitL 44 l) = true then (splitL 44 l, decide (l.length ≤ 30)) else ([], false)
def attrsB (l : List UInt8) : Bool := (pairsR l).2
end Go.Tp
namespace Go.Proofs.YtmdkonfmbbbepaaDoor
open Go.RowKit Go.Rst Go.Tp
def GivesP (w : World) (r : List (List UInt8) × Bool) (e : Ending) (w' : World) : Prop := ∃ v, e = .returned (.tuple #[v, .bool r.2]) ∧ w'.ownsRow w.heap.size 9 1 v r.1.length (svs r.1) ∧ Below w.heap.size w w'
theorem GivesP.no {w w' : World} {r : List (List UInt8) × Bool} (h : r = ([], false)) (hb : Below w.heap.size w w') : GivesP w r (.returned (.tuple #[.slice none 0 0, .bool false])) w' := by
  subst h
  exact ⟨_, rfl, World.ownsRow_nil _ _ _ _, hb⟩
end Go.Proofs.YtmdkonfmbbbepaaDoor
set_option linter.unusedVariables false
namespace Go.Ts
open Go Go.Tp
structure Msg where
  seq : Int
  body : List UInt8
  attr : List UInt8
  tries : Int
  til : Int
  dead : Bool
  why : List UInt8
  prio : Int
deriving DecidableEq
structure Sub where
  id : Int
  name : List UInt8
  topic : List UInt8
  want : List UInt8
  lease : Int
  most : Int
  floor : Int
  acks : List Int
  queue : List Msg
  note : List UInt8
deriving DecidableEq
def w64 (n : Int) : Int := RowKit.wrap64 n
def nameB (l : List UInt8) : Bool := decide (l.length ≤ 20) && rightB l && !(l.contains 47)
def msgB (m : Msg) (lease most clock : Int) : Bool :=
  if 60 < m.body.length || !attrsB m.attr || decide (m.prio < 0) || decide (9 < m.prio) then false
  else if m.dead then decide (m.til = 0) && (decide (m.why = [110, 97, 99, 107]) || decide (m.why = [116, 105, 109, 101])) && decide (m.tries = most)
  else if m.why ≠ [] then false
  else if m.til = 0 then decide (0 ≤ m.tries) && decide (m.tries < most)
  else decide (1 ≤ m.tries) && decide (m.tries ≤ most) && decide (clock < m.til) && decide (m.til ≤ w64 (clock + lease))
def fieldsB (x : Sub) (next : Int) : Bool :=
  decide (1 ≤ x.id) && decide (x.id ≤ 1073741824) && nameB x.name && patB x.topic && attrsB x.want && decide (1 ≤ x.lease) && decide (x.lease ≤ 1000) && decide (1 ≤ x.most) && decide (x.most ≤ 9) && decide (0 ≤ x.floor) && decide (x.floor < next) && decide (x.acks.length ≤ 20) && decide (x.note.length ≤ 30) && decide (x.queue.length ≤ 30)
def ackB (next : Int) : Int → List Int → Bool
  | _, [] => true
  | last, n :: l => decide (last < n) && decide (n < next) && ackB next n l
def queB (x : Sub) (clock next : Int) : Int → List Msg → Bool
  | _, [] => true
  | last, m :: l => decide (last < m.seq) && decide (m.seq < next) && !(x.acks.contains m.seq) && msgB m x.lease x.most clock && queB x clock next m.seq l
def goodB (x : Sub) (clock next : Int) : Bool := fieldsB x next && ackB next x.floor x.acks && queB x clock next x.floor x.queue
def noSub : Sub := ⟨0, [], [], [], 0, 0, 0, [], [], []⟩
end Go.Ts
set_option linter.unusedVariables false
namespace Go.Ts
open Go Go.Tp
theorem ack_all {next : Int} : ∀ {a : Int} {l : List Int}, ackB next a l = true → ∀ y ∈ l, a < y ∧ y < next
  | _, [], _, y, hy => by cases hy
  | a, n :: l, h, y, hy => by
    simp only [ackB, Bool.and_eq_true, decide_eq_true_eq] at h
    rcases List.mem_cons.1 hy with rfl | hy
    · exact h.1
    · have := ack_all h.2 y hy
      omega
end Go.Ts
namespace Go.Proofs.YtmdkonfmbbbepaaDoor
open Go.RowKit Go.Rst
theorem info42 : (Tryd.prog.info? 42).map (fun i => (i.zero, i.size, i.bytes)) = some (some (.agg #[.string ⟨#[]⟩, .slice none 0 0]), 2, 40) := by kernel_rfl
theorem rr_below {w w' : World} {B : Nat} {v : Value} {rs : List (ByteArray × List UInt8)} (h : RR w v rs) (hb : Below B w w') (hB : w.heap.size ≤ B) : RR w' v rs := by
  obtain ⟨A, c, rfl, h1, h2, h3⟩ := h
  refine ⟨A, c, rfl, h1, h2, ?_⟩
  rcases h3 with rfl | ⟨b, off, rfl, hb0, hc⟩
  · exact .inl rfl
  · refine .inr ⟨b, off, rfl, Nat.lt_of_lt_of_le hb0 (hb.size), fun j hj => ?_⟩
    obtain ⟨a1, u, a2, a3⟩ := hc j hj
    exact ⟨(hb.cell (p := ⟨b, off + j * 2, none⟩) (by show b < B; omega)).trans a1, u, (hb.cell (p := ⟨b, off + j * 2 + 1, none⟩) (by show b < B; omega)).trans a2, a3.below (hb.mono hB)⟩
theorem rr_nil (w : World) : RR w (.slice none 0 0) [] := ⟨none, 0, rfl, Nat.le_refl _, Nat.zero_le _, .inl rfl⟩
theorem or_shape {e eR : TypeId} {w : World} {base : Nat} {v : Value} {rs : List (ByteArray × List UInt8)} (h : OR e eR w base v rs) : ∃ A c, v = .slice A rs.length c := by
  obtain ⟨A, c, h, _⟩ := h.rr
  exact ⟨A, c, h⟩
end Go.Proofs.YtmdkonfmbbbepaaDoor
namespace Go.Proofs.YtmdkonfmbbbepaaDoor
open Go.RowKit Go.Rst
def RP (w : World) (v : Value) (ps : List (List UInt8)) : Prop :=
  ∃ A c, v = .slice A ps.length c ∧ ps.length ≤ c ∧ c ≤ maxLen ∧ (ps = [] ∨ ∃ b off, A = some ⟨b, off, none⟩ ∧ b < w.heap.size ∧ ∀ j (h : j < ps.length), ∃ u, w.cell? ⟨b, off + j, none⟩ = some u ∧ RB w u ps[j])
def OP (e eP : TypeId) (w : World) (base : Nat) (v : Value) (ps : List (List UInt8)) : Prop :=
  ∃ us : List (List UInt8 × Value), us.map (·.1) = ps ∧ w.ownsRow base eP 1 v us.length (us.map (·.2)) ∧ ∀ x ∈ us, FB e w base x.2 x.1
theorem rp_nil (w : World) : RP w (.slice none 0 0) [] := ⟨none, 0, rfl, Nat.le_refl _, Nat.zero_le _, .inl rfl⟩
theorem OP.nil_ (e eP : TypeId) (w : World) (base : Nat) : OP e eP w base (.slice none 0 0) [] := ⟨[], rfl, World.ownsRow_nil _ _ _ _, fun _ h => by cases h⟩
theorem OP.rp {e eP : TypeId} {w : World} {base : Nat} {v : Value} {ps : List (List UInt8)} (h : OP e eP w base v ps) : RP w v ps := by
  obtain ⟨us, rfl, ho, hf⟩ := h
  rcases ho.2 with ⟨rfl, h0⟩ | ⟨g, cap, cur, rfl, hb, hg, hnc, hcm, hcs, ht⟩
  · have : us = [] := List.eq_nil_of_length_eq_zero h0
    subst this
    exact rp_nil w
  · refine ⟨some ⟨g, 0, none⟩, cap, by rw [List.length_map], by rw [List.length_map]; exact hnc, hcm, .inr ⟨g, 0, rfl, (Array.getElem?_eq_some_iff.1 hg).1, fun j hj => ?_⟩⟩
    rw [List.length_map] at hj
    have hc := ho.cells (g := g) rfl j us[j].2 (by simp [hj])
    rw [Addr.add_lit] at hc
    refine ⟨us[j].2, hc, ?_⟩
    have := (hf us[j] (List.getElem_mem hj)).rb
    simpa using this
theorem OP.shape {e eP : TypeId} {w : World} {base : Nat} {v : Value} {ps : List (List UInt8)} (h : OP e eP w base v ps) : ∃ A c, v = .slice A ps.length c ∧ (c : Int) ≤ 9223372036854775807 ∧ ps.length ≤ c := by
  obtain ⟨A, c, h, h1, h2, _⟩ := h.rp
  refine ⟨A, c, h, ?_, h1⟩
  unfold maxLen at h2; omega
theorem OP.below {e eP : TypeId} {w w' : World} {base : Nat} {v : Value} {ps : List (List UInt8)} (h : OP e eP w base v ps) (hb : Below w.heap.size w w') : OP e eP w' base v ps := by
  obtain ⟨us, h1, ho, hf⟩ := h
  exact ⟨us, h1, own_below ho hb, fun x hx => (hf x hx).below hb⟩
theorem OP.base_ {e eP : TypeId} {w : World} {base base' : Nat} {v : Value} {ps : List (List UInt8)} (h : OP e eP w base v ps) (hb : base' ≤ base) : OP e eP w base' v ps := by
  obtain ⟨us, h1, ho, hf⟩ := h
  exact ⟨us, h1, own_base ho hb, fun x hx => (hf x hx).base_ hb⟩
theorem OP.alloc {e eP : TypeId} {w : World} {base : Nat} {v : Value} {ps : List (List UInt8)} (h : OP e eP w base v ps) (o : Obj) : OP e eP (w.alloc o) base v ps :=
  h.below ((Below.refl _ _).alloc (Nat.le_refl _) o)
theorem own_grown {w w' : World} {base base' size size' n m : Nat} {e e' : TypeId} {v r : Value} {xs ys : List Value} (h : w.ownsRow base e size v n xs) (hr : w.ownsRow base' e' size' r m ys) (hne : e ≠ e')
    (hg : w.grownBy w' r.ownBlock) : w'.ownsRow base e size v n xs := by
  refine ⟨h.1, ?_⟩
  rcases h.2 with h0 | ⟨g, cap, cur, rfl, hbg, hh, rest⟩
  · exact .inl h0
  · refine .inr ⟨g, cap, cur, rfl, hbg, (hg.block g (Array.getElem?_eq_some_iff.1 hh).1 (fun he => ?_)).trans hh, rest⟩
    rcases hr.2 with ⟨rfl, _⟩ | ⟨g', cap', cur', rfl, _, hg', _⟩
    · simp [Value.ownBlock] at he
    · simp [Value.ownBlock] at he
      subst he
      rw [hh] at hg'
      injection hg' with hg'
      injection hg' with _ h2 _
      exact hne h2
theorem OP.grown {e eP e' : TypeId} {w w' : World} {base base' size m : Nat} {v r : Value} {ps : List (List UInt8)} {ys : List Value} (h : OP e eP w base v ps) (hr : w.ownsRow base' e' size r m ys) (h1 : e ≠ e') (h2 : eP ≠ e')
    (hg : w.grownBy w' r.ownBlock) : OP e eP w' base v ps := by
  obtain ⟨us, hu, ho, hf⟩ := h
  exact ⟨us, hu, own_grown ho hr h2 hg, fun x hx => (hf x hx).grown hr h1 hg⟩
theorem OP.push {e eP : TypeId} {w w' : World} {base : Nat} {v v' u : Value} {us : List (List UInt8 × Value)} {l : List UInt8} (hne : e ≠ eP)
    (ho : w.ownsRow base eP 1 v us.length (us.map (·.2))) (hf : ∀ x ∈ us, FB e w base x.2 x.1) (hu : FB e w base u l)
    (ho' : w'.ownsRow base eP 1 v' (us.length + 1) (us.map (·.2) ++ [u])) (hg : w.grownBy w' v.ownBlock) : OP e eP w' base v' (us.map (·.1) ++ [l]) := by
  refine ⟨us ++ [(l, u)], by simp, by rw [List.map_append, List.length_append]; exact ho', fun x hx => ?_⟩
  rcases List.mem_append.1 hx with hx | hx
  · exact (hf x hx).grown ho hne hg
  · simp at hx
    subst hx
    exact hu.grown ho hne hg
theorem OP.src {eP : TypeId} {w : World} {base : Nat} {v : Value} {us : List (List UInt8 × Value)} {tx e' : TypeId} (ho : w.ownsRow base eP 1 v us.length (us.map (·.2))) (hk : Tryd.prog.underlying tx = some (.slice e')) (h1 : ∀ x ∈ us, x.2.oneCell' = true) :
    Src Tryd.prog 1 tx v us.length (us.map (·.2)) w := by
  rcases ho.2 with ⟨rfl, h0⟩ | ⟨g, cap, cur, rfl, hb, hg, hnc, hcm, hcs, ht⟩
  · have : us = [] := List.eq_nil_of_length_eq_zero h0
    subst this
    exact Src.ofNil _ hk 0
  · refine Src.ofSlice _ hk ⟨g, 0, none⟩ _ _ _ (by simp) (fun j x hj => ho.cells (g := g) rfl j x hj) (fun x hx => ?_)
    obtain ⟨y, hy, rfl⟩ := List.mem_map.1 hx
    exact h1 y hy
theorem fb_one {e : TypeId} {w : World} {base : Nat} {v : Value} {l : List UInt8} (h : FB e w base v l) : v.oneCell' = true := by
  obtain ⟨A, c, rfl⟩ := h.shape
  rfl
end Go.Proofs.YtmdkonfmbbbepaaDoor
namespace Go.Proofs.YtmdkonfmbbbepaaDoor
open Go.RowKit Go.Rst Go.Pg Go.Crc
theorem rowCells_append (a b : List (ByteArray × List UInt8 × Value)) : rowCells (a ++ b) = rowCells a ++ rowCells b := by unfold rowCells; rw [List.flatMap_append]
theorem OR.src {e eR : TypeId} {w : World} {base base' : Nat} {v : Value} {us : List (ByteArray × List UInt8 × Value)} {tx e' : TypeId} (ho : w.ownsRow base eR 2 v us.length (rowCells us)) (hf : ∀ x ∈ us, FB e w base' x.2.2 x.2.1) (hk : Tryd.prog.underlying tx = some (.slice e')) :
    Src Tryd.prog 2 tx v us.length (rowCells us) w := by
  rcases ho.2 with ⟨rfl, h0⟩ | ⟨g, cap, cur, rfl, hb, hg, hnc, hcm, hcs, ht⟩
  · have : us = [] := List.eq_nil_of_length_eq_zero h0
    subst this
    exact Src.ofNil _ hk 0
  · refine Src.ofSlice _ hk ⟨g, 0, none⟩ _ _ _ (rowCells_length us) (fun j x hj => ho.cells (g := g) rfl j x hj) (fun x hx => ?_)
    unfold rowCells at hx
    obtain ⟨y, hy, hx⟩ := List.mem_flatMap.1 hx
    simp only [List.mem_cons, List.not_mem_nil, or_false] at hx
    rcases hx with rfl | rfl
    · rfl
    · exact fb_one (hf y hy)
end Go.Proofs.YtmdkonfmbbbepaaDoor
namespace Go.Proofs.YtmdkonfmbbbepaaDoor
open Go.RowKit Go.Rst
set_option maxRecDepth 100000 in
set_option maxHeartbeats 400000 in
theorem num_any (n : Int) (w : World) : Calls Tryd.prog 35 #[.int .i64 n] w (NewB 5 w (numL (clip n))) := by
  have hcl := clip_le n
  have h8 := numL_len8 hcl
  rcases (show n < 0 ∨ (0 ≤ n ∧ n ≤ 9007199254740992) ∨ 9007199254740992 < n from by omega) with h | ⟨h, h'⟩ | h
  all_goals
    have hc : (clip n : Int) = max 0 (min n 9007199254740992) := by unfold clip; omega
    generalize clip n = c at *
    have HC := Lib.hid hc
    clear hc
    go_enter Tryd.func35, Tryd.ntmps35
    go_wp2
    go_loopw [0, 3] (fun x b wr => ∃ (k : Nat) (acc : List UInt8), (k : Int) ≤ 9007199254740992 ∧ x = .int .i64 k ∧ acc ++ numL k = numL c ∧ wr.ownsRow w.heap.size 5 1 b acc.length (bvs acc) ∧ Below w.heap.size w wr)
      (fun x _ _ => (intOf x).toNat)
    case atStart => exact ⟨c, [], by omega, by have := HC.out; go_num, rfl, World.ownsRow_nil _ _ _ _, Below.refl _ _⟩
    case round =>
      obtain ⟨k, acc, hk, rfl, heq, hown, hbel⟩ := hrel
      have hsz := hbel.size
      have hlen : acc.length ≤ 7 := by
        have h1 := congrArg List.length heq
        rw [List.length_append] at h1
        have h2 := numL_pos k
        omega
      have H := Lib.hid heq
      clear heq
      by_cases hlt : 128 ≤ k
      · go_wp2_with (at_builtin; refine wpList_own rfl (.tmp 11) (.tmp 15) 22 22 rfl w.heap.size 5 (.int .u8 0) 1 1 Tryd.underlying22 info5 rfl rfl (hown.alloc _) rfl (src_one wr Tryd.underlying22 5 _ rfl) (hbel.alloc hbel.size _) (Nat.le_refl _) ?_ ?_ ?_ ?_)
        · unfold maxLen; omega
        · omega
        · simp; omega
        · intro v' w1 hown' hbel' _
          rw [byte_more k] at hown'
          clear hown hbel
          go_wp2
          go_roundw
          case rel => exact ⟨k / 128, acc ++ [UInt8.ofNat (k % 128 + 128)], by omega, by go_num, by rw [← H.out, numL_ge hlt, List.append_assoc]; rfl, own_snoc hown', hbel'⟩
          case measure => simp [intOf]; omega
      · go_wp2_with (at_builtin; refine wpList_own rfl (.tmp 17) (.tmp 20) 22 22 rfl w.heap.size 5 (.int .u8 0) 1 1 Tryd.underlying22 info5 rfl rfl (hown.alloc _) rfl (src_one wr Tryd.underlying22 5 _ rfl) (hbel.alloc hbel.size _) (Nat.le_refl _) ?_ ?_ ?_ ?_)
        · unfold maxLen; omega
        · omega
        · simp; omega
        · intro v' w1 hown' hbel' _
          go_wp2
          go_ret
          rw [byte_last (show k < 128 by omega)] at hown'
          have e : numL c = acc ++ [UInt8.ofNat k] := by rw [← H.out, numL_lt (by omega)]
          exact ⟨v', rfl, by rw [e]; exact own_snoc hown', hbel'⟩
end Go.Proofs.YtmdkonfmbbbepaaDoor
namespace Go.Proofs.YtmdkonfmbbbepaaDoor
open Go.RowKit Go.Rst
set_option maxRecDepth 100000 in
set_option maxHeartbeats 400000 in
theorem codeText_any (s : ByteArray) (hs : s.size ≤ 1000000000) (w : World) : Calls Tryd.prog 34 #[.string s] w (NewB 5 w (textL s.data.toList)) := by
  go_enter Tryd.func34, Tryd.ntmps34
  go_wp2_with fail
  refine (num_any _ _).mono ?_
  rintro e w1 ⟨v, rfl, hown, hbel⟩
  have e1 : clip (s.size : Int) = s.data.toList.length := by unfold clip; rw [Array.length_toList]; show _ = s.size; omega
  rw [e1] at hown
  have h8 := numL_len8 (n := s.data.toList.length) (by rw [Array.length_toList]; show s.size ≤ _; omega)
  have hls : s.data.toList.length = s.size := by rw [Array.length_toList]; rfl
  have HLS := Lib.hid hls
  clear hls e1
  go_wp2_with (at_builtin; refine wpList_own rfl (.tmp 5) (.tmp 6) 22 9 rfl w.heap.size 5 (.int .u8 0) 1 1 Tryd.underlying22 info5 rfl rfl hown rfl (src_string Tryd.underlying9 s) hbel (Nat.le_refl _) ?_ ?_ ?_ ?_)
  · have := HLS.out; unfold maxLen; omega
  · have := HLS.out; omega
  · exact hbel.size
  · intro v' w2 hown' hbel' _
    go_wp2
    go_ret
    exact ⟨v', rfl, own_cat hown', hbel'⟩
end Go.Proofs.YtmdkonfmbbbepaaDoor
namespace Go.Proofs.YtmdkonfmbbbepaaDoor
open Go.RowKit Go.Rst
set_option maxRecDepth 100000 in
set_option maxHeartbeats 400000 in
theorem getNum_any (v : Value) (l : List UInt8) (p : Int) (w : World) (hv : RB w v l) : Calls Tryd.prog 67 #[v, .int .i64 p] w fun e w' => e = .returned (.tuple #[.int .i64 (getNum l p).1, .int .i64 (getNum l p).2.1, .int .u16 (getNum l p).2.2]) ∧ w = w' := by
  obtain ⟨A, c, rfl, hlc, hc, hcells⟩ := hv
  have HC := Lib.hid hcells
  clear hcells
  go_enter Tryd.func67, Tryd.ntmps67
  go_wp2
  refine wp_scope_fwd 0 rfl ?_
  go_wp2
  go_loop [1, 7, 8, 11] (fun x n e i => ∃ (k acc : Nat) (q : Int), k ≤ 8 ∧ i = .int .i64 k ∧ e = .int .u16 11 ∧ n = .int .i64 acc ∧ (k = 0 ∨ 0 ≤ q) ∧ x = .int .i64 q ∧ acc < 128 ^ k ∧ gnumF l (8 - k) k acc q = getNum l p)
    (fun _ _ _ i => 8 - (intOf i).toNat)
  case atStart => exact ⟨0, 0, p, by omega, rfl, rfl, rfl, .inl rfl, rfl, by decide, rfl⟩
  case round =>
    obtain ⟨k, acc, q, hk, rfl, rfl, rfl, hq, rfl, hacc, heq⟩ := hrel
    have H := Lib.hid heq
    have HA := Lib.hid hacc
    clear heq hacc
    unfold maxLen at hc
    by_cases hlt : k < 8
    · rcases (show q < 0 ∨ (0 ≤ q ∧ (l.length : Int) ≤ q) ∨ (0 ≤ q ∧ q < l.length) from by omega) with hin | ⟨h0, hin⟩ | ⟨h0, hin⟩
      · go_wp2
        go_step3
        refine ⟨rfl, ?_⟩
        unfold Behind
        go_wp2
        rw [Exit.noGoto_ret]
        go_ret3
        have e : getNum l p = (0, 0, 10) := by rw [← H.out, show 8 - k = (7 - k) + 1 from by omega, gnumF, if_pos (.inl hin)]
        rw [e]
        exact ⟨rfl, rfl⟩
      · go_wp2
        go_step3
        refine ⟨rfl, ?_⟩
        unfold Behind
        go_wp2
        rw [Exit.noGoto_ret]
        go_ret3
        have e : getNum l p = (0, 0, 10) := by rw [← H.out, show 8 - k = (7 - k) + 1 from by omega, gnumF, if_pos (.inr hin)]
        rw [e]
        exact ⟨rfl, rfl⟩
      · obtain ⟨m, rfl⟩ := Int.eq_ofNat_of_zero_le h0
        have hm : m < l.length := by omega
        obtain ⟨b, off, rfl, hb, hcell⟩ : ∃ b off, A = some ⟨b, off, none⟩ ∧ b < w.heap.size ∧ ∀ j (h : j < l.length), w.cell? ⟨b, off + j, none⟩ = some (bv l[j]) := by
          rcases HC.out with rfl | h
          · simp at hm
          · exact h
        have hc1 := hcell m hm
        obtain ⟨d, hd⟩ : ∃ d, d = l[m].toNat := ⟨_, rfl⟩
        have hd' : d < 256 := by rw [hd]; exact l[m].toNat_lt
        unfold bv at hc1
        rw [← hd] at hc1
        have HD := Lib.hid hd
        clear hd hcell
        have hgd : (l.getD (Int.toNat (m : Int)) 0).toNat = d := by rw [Int.toNat_natCast, List.getD_eq_getElem?_getD, List.getElem?_eq_getElem hm, HD.out]; rfl
        have hbits := digit_up hd' hlt HA.out
        obtain ⟨N, hN⟩ : ∃ N, N = acc + d % 128 * 128 ^ k := ⟨_, rfl⟩
        rw [← hN] at hbits
        have hNlt : N < 128 ^ (k + 1) := by
          rw [hN, Nat.pow_succ]
          have h1 := HA.out
          have h2 : d % 128 * 128 ^ k ≤ 127 * 128 ^ k := Nat.mul_le_mul_right _ (by omega)
          omega
        have hstep : gnumF l (8 - k) k acc (m : Int) = if 128 ≤ d then gnumF l (7 - k) (k + 1) N (m + 1) else if (d = 0 ∧ 0 < k) ∨ 9007199254740992 < N then (0, 0, 11) else ((N : Int), (m : Int) + 1, 0) := by
          rw [show 8 - k = (7 - k) + 1 from by omega, gnumF, if_neg (by omega), hgd, hN]
        rw [hstep] at H
        have HNL := Lib.hid hNlt
        clear hgd HA HD hN hNlt hstep HC
        by_cases hge : 128 ≤ d
        · rw [if_pos hge] at H
          go_wp2
          go_round
          case rel => exact ⟨k + 1, N, (m : Int) + 1, by omega, by go_num, rfl, rfl, by omega, rfl, HNL.out, by rw [show 8 - (k + 1) = 7 - k from by omega]; exact H.out⟩
          case measure => simp [intOf]; omega
        · rw [if_neg hge] at H
          by_cases hz : d = 0 ∧ 0 < k
          · have e : getNum l p = (0, 0, 11) := by rw [← H.out, if_pos (.inl hz)]
            have E := Lib.hid e
            obtain ⟨rfl, hk0⟩ := hz
            clear e H
            go_wp2
            go_step3
            refine ⟨rfl, ?_⟩
            unfold Behind
            go_wp2
            rw [Exit.noGoto_ret]
            go_ret3
            rw [E.out]
            exact ⟨rfl, rfl⟩
          · by_cases hbig : 9007199254740992 < N
            · have e : getNum l p = (0, 0, 11) := by rw [← H.out, if_pos (.inr hbig)]
              have E := Lib.hid e
              clear e H
              have hbig' : (9007199254740992 : Int) < (N : Int) := by omega
              clear hbig
              rcases (show ((d : Int) == 0) = false ∨ (((d : Int) == 0) = true ∧ (k : Int) ≤ 0) from by
                by_cases h : d = 0
                · exact .inr ⟨by simp [h], by omega⟩
                · exact .inl (by simp; omega)) with hd0 | ⟨hd0, hk0⟩
              all_goals
                go_wp2
                go_step3
                refine ⟨rfl, ?_⟩
                unfold Behind
                go_wp2
                rw [Exit.noGoto_ret]
                go_ret3
                rw [E.out]
                exact ⟨rfl, rfl⟩
            · have e : getNum l p = ((N : Int), (m : Int) + 1, 0) := by rw [← H.out, if_neg (by omega)]
              have E := Lib.hid e
              clear e H
              have hbig' : (N : Int) ≤ (9007199254740992 : Int) := by omega
              clear hbig
              rcases (show ((d : Int) == 0) = false ∨ (((d : Int) == 0) = true ∧ (k : Int) ≤ 0) from by
                by_cases h : d = 0
                · exact .inr ⟨by simp [h], by omega⟩
                · exact .inl (by simp; omega)) with hd0 | ⟨hd0, hk0⟩
              all_goals
                go_wp2
                simp only [Exit.jump]
                go_ret3
                rw [E.out]
                exact ⟨rfl, rfl⟩
    · go_wp2
      go_step3
      go_wp2
      simp only [Exit.jump]
      go_ret3
      have e : getNum l p = (0, 0, 11) := by rw [← H.out, show 8 - k = 0 from by omega, gnumF]
      rw [e]
      exact ⟨rfl, rfl⟩
set_option maxRecDepth 100000 in
set_option maxHeartbeats 400000 in
theorem getText_any (v : Value) (l : List UInt8) (p most : Int) (w : World) (hv : RB w v l) : Calls Tryd.prog 66 #[v, .int .i64 p, .int .i64 most] w fun e w' => e = .returned (.tuple #[.string ⟨(getText l p most).1.toArray⟩, .int .i64 (getText l p most).2.1, .int .u16 (getText l p most).2.2]) ∧ w = w' := by
  have hv0 := hv
  obtain ⟨A, c, rfl, hlc, hc, hcells⟩ := hv
  have HC := Lib.hid hcells
  clear hcells
  unfold maxLen at hc
  have hspec := getNum_spec l p
  obtain ⟨n, q, er, hg⟩ : ∃ n q er, getNum l p = (n, q, er) := ⟨_, _, _, rfl⟩
  have HG := Lib.hid hg
  have hcall := getNum_any _ l p w hv0
  rw [hg] at hcall hspec
  have HK := Lib.hid hcall
  have HV := Lib.hid hv0
  clear hg hcall hv0
  rcases hspec with ⟨rfl, h1, h2, h3, h4, h5⟩ | ⟨her, rfl, rfl⟩
  · by_cases hm : most < n
    · have e : getText l p most = ([], 0, 3) := by unfold getText; rw [HG.out]; simp [hm]
      have E := Lib.hid e
      clear e
      go_enter Tryd.func66, Tryd.ntmps66
      go_wp2
      refine wp_scope_fwd 0 rfl ?_
      go_wp2_with fail
      refine HK.out.mono ?_
      rintro x w1 ⟨rfl, rfl⟩
      go_wp2
      go_step3
      refine ⟨rfl, ?_⟩
      unfold Behind
      go_wp2
      rw [Exit.noGoto_ret]
      go_ret3
      rw [E.out]
      exact ⟨rfl, rfl⟩
    · by_cases hs : (l.length : Int) - q < n
      · have e : getText l p most = ([], 0, 10) := by unfold getText; rw [HG.out]; simp [hm, hs]
        have E := Lib.hid e
        clear e
        go_enter Tryd.func66, Tryd.ntmps66
        go_wp2
        refine wp_scope_fwd 0 rfl ?_
        go_wp2_with fail
        refine HK.out.mono ?_
        rintro x w1 ⟨rfl, rfl⟩
        go_wp2
        go_step3
        refine ⟨rfl, ?_⟩
        unfold Behind
        go_wp2
        rw [Exit.noGoto_ret]
        go_ret3
        rw [E.out]
        exact ⟨rfl, rfl⟩
      · have e : getText l p most = ((l.drop q.toNat).take n.toNat, q + n, 0) := by unfold getText; rw [HG.out]; simp [hm, hs]
        have E := Lib.hid e
        clear e
        replace h4 : p < q := h4
        obtain ⟨n, rfl⟩ := Int.eq_ofNat_of_zero_le h1
        obtain ⟨q, rfl⟩ := Int.eq_ofNat_of_zero_le (show 0 ≤ q by omega)
        obtain ⟨b, off, rfl, hb, _⟩ : ∃ b off, A = some ⟨b, off, none⟩ ∧ b < w.heap.size ∧ ∀ j (h : j < l.length), w.cell? ⟨b, off + j, none⟩ = some (bv l[j]) := by
          rcases HC.out with rfl | h
          · simp at h5; omega
          · exact h
        have hr : RB w (.slice (some ⟨b, off + q, none⟩) n (c - q)) ((l.drop q).take n) := HV.out.cut (by omega)
        by_cases hcq : c = q
        · subst hcq
          obtain rfl : n = 0 := by omega
          have hcv := (RB.head (n := 0) HV.out (Nat.zero_le _)).str (P := Tryd.prog) (src := 22) (dst := 9) Tryd.underlying22 Tryd.underlying5 Tryd.underlying9
          rw [List.take_zero] at hcv
          have hcv2 : (convert 22 9 (.slice (some ⟨b, off, none⟩) 0 0)).run Tryd.prog w = .ok (.string ⟨[].toArray⟩) w := RB.str (P := Tryd.prog) ⟨_, 0, rfl, Nat.le_refl _, Nat.zero_le _, .inl rfl⟩ Tryd.underlying22 Tryd.underlying5 Tryd.underlying9
          clear hr HC
          go_enter Tryd.func66, Tryd.ntmps66
          go_wp2
          refine wp_scope_fwd 0 rfl ?_
          go_wp2_with fail
          refine HK.out.mono ?_
          rintro x w1 ⟨rfl, rfl⟩
          go_wp2
          simp only [Exit.jump]
          go_ret3
          rw [E.out]
          exact ⟨rfl, rfl⟩
        · have hcv := hr.str (P := Tryd.prog) (src := 22) (dst := 9) Tryd.underlying22 Tryd.underlying5 Tryd.underlying9
          clear hr HC
          go_enter Tryd.func66, Tryd.ntmps66
          go_wp2
          refine wp_scope_fwd 0 rfl ?_
          go_wp2_with fail
          refine HK.out.mono ?_
          rintro x w1 ⟨rfl, rfl⟩
          go_wp2
          simp only [Exit.jump]
          go_ret3
          rw [E.out]
          exact ⟨rfl, rfl⟩
  · have e : getText l p most = ([], 0, er) := by unfold getText; rw [HG.out]; rcases her with rfl | rfl <;> simp
    have E := Lib.hid e
    clear e
    have hne : (er != 0) = true := by rcases her with rfl | rfl <;> rfl
    have HE := Lib.hid her
    clear her
    go_enter Tryd.func66, Tryd.ntmps66
    go_wp2
    refine wp_scope_fwd 0 rfl ?_
    go_wp2_with fail
    refine HK.out.mono ?_
    rintro x w1 ⟨rfl, rfl⟩
    go_wp2
    go_step3
    refine ⟨rfl, ?_⟩
    unfold Behind
    go_wp2
    rw [Exit.noGoto_ret]
    go_ret3
    rw [E.out]
    exact ⟨rfl, rfl⟩
end Go.Proofs.YtmdkonfmbbbepaaDoor
namespace Go.Proofs.YtmdkonfmbbbepaaDoor
open Go.RowKit Go.Rst Go.Pg Go.Crc
theorem own_set {w : World} {base n c g : Nat} {e : TypeId} {size : Nat} {xs : List Value} (h : w.ownsRow base e size (.slice (some ⟨g, 0, none⟩) n c) n xs) (i : Nat) (u : Value) :
    (w.setCell ⟨g, i, none⟩ u).ownsRow base e size (.slice (some ⟨g, 0, none⟩) n c) n (xs.set i u) := by
  refine ⟨by rw [List.length_set]; exact h.1, ?_⟩
  rcases h.2 with ⟨he, _⟩ | ⟨g', cap, cur, he, hb, hg, hnc, hcm, hcs, ht⟩
  · cases he
  · injection he with he _ e3
    injection he with he
    injection he with e1 _ _
    subst e1
    subst e3
    refine .inr ⟨g, c, cur.setIfInBounds i u, rfl, hb, ?_, hnc, hcm, by rw [Array.size_setIfInBounds]; exact hcs, ?_⟩
    · simp [World.setCell, Array.getElem?_modify, hg]
    · rw [Array.toList_setIfInBounds, List.take_set, ht]
end Go.Proofs.YtmdkonfmbbbepaaDoor
set_option linter.unusedVariables false
set_option linter.unusedSimpArgs false
namespace Go.Ts
open Go Go.Tp
theorem name_word (l : List UInt8) : nameB l = (decide (l.length ≤ 20) && wordB l) := by
  unfold nameB
  by_cases h47 : l.contains 47 = true
  · have hw : wordB l = false := by
      unfold wordB
      rw [List.contains_iff_mem] at h47
      have : l.all isW = false := by
        rw [List.all_eq_false]
        exact ⟨47, h47, by decide⟩
      rw [this, Bool.false_and]
    rw [h47, hw]
    simp
  · have h47 : l.contains 47 = false := by simpa using h47
    have hne : ∀ x ∈ l, x ≠ 47 := fun x hx e => by
      subst e
      have := List.contains_iff_mem.2 hx
      rw [h47] at this
      cases this
    unfold rightB
    rw [h47, splitL_last 47 l hne]
    by_cases h20 : l.length ≤ 20
    · have h30 : l.length ≤ 30 := by omega
      simp [h20, h30]
    · simp [h20]
def okM (x : Sub) (clock : Int) (m : Msg) : Bool := !(x.acks.contains m.seq) && msgB m x.lease x.most clock
theorem que_split (x : Sub) (clock next : Int) : ∀ (a : Int) (q : List Msg), queB x clock next a q = (q.all (okM x clock) && ackB next a (q.map (·.seq)))
  | a, [] => rfl
  | a, m :: q => by
    simp only [queB, List.all_cons, List.map_cons, ackB, que_split x clock next m.seq q, okM]
    cases decide (a < m.seq) <;> cases decide (m.seq < next) <;> cases x.acks.contains m.seq <;> cases msgB m x.lease x.most clock <;> simp
theorem good_split (x : Sub) (clock next : Int) : goodB x clock next = ((decide (1 ≤ x.id) && decide (x.id ≤ 1073741824)) && (nameB x.name && (patB x.topic && (attrsB x.want && ((decide (1 ≤ x.lease) && decide (x.lease ≤ 1000)) && ((decide (1 ≤ x.most) && decide (x.most ≤ 9)) && (decide (x.note.length ≤ 30) && (decide (0 ≤ x.floor) && (decide (x.floor < next) && ((decide (x.acks.length ≤ 20) && ackB next x.floor x.acks) && (decide (x.queue.length ≤ 30) && queB x clock next x.floor x.queue))))))))))) := by
  unfold goodB fieldsB
  ac_rfl
end Go.Ts
set_option linter.unusedVariables false
set_option linter.unusedSimpArgs false
namespace Go.Ts
open Go Go.Tp
structure BaseOk (x : Sub) (next : Int) : Prop where
  name : nameB x.name = true
  topic : patB x.topic = true
  want : attrsB x.want = true
  lease : 1 ≤ x.lease ∧ x.lease ≤ 1000
  most : 1 ≤ x.most ∧ x.most ≤ 9
  floor : 0 ≤ x.floor ∧ x.floor < next
  note : x.note.length ≤ 30
structure SI (base : Sub) (clock next seq : Int) (x : Sub) : Prop where
  eq : x = { base with acks := x.acks, queue := x.queue }
  al : x.acks.length ≤ 20
  ak : ackB next base.floor x.acks = true
  au : ∀ y ∈ x.acks, y ≤ seq
  ql : x.queue.length ≤ 30
  qk : ackB next base.floor (x.queue.map (·.seq)) = true
  qs : ∀ m ∈ x.queue, m.seq ≤ seq ∧ x.acks.contains m.seq = false ∧ msgB m base.lease base.most clock = true ∧ m.til ≤ 1000000000
  fl : base.floor ≤ seq
theorem ack_snoc {next n : Int} (hn : n < next) : ∀ {a : Int} {l : List Int}, ackB next a l = true → (∀ y ∈ l, y < n) → a < n → ackB next a (l ++ [n]) = true
  | a, [], _, _, ha => by simp [ackB, ha, hn]
  | a, m :: l, h, hl, ha => by
    simp only [ackB, Bool.and_eq_true, decide_eq_true_eq] at h
    simp only [List.cons_append, ackB, Bool.and_eq_true, decide_eq_true_eq]
    exact ⟨h.1, ack_snoc hn h.2 (fun y hy => hl y (List.mem_cons_of_mem _ hy)) (hl m List.mem_cons_self)⟩
theorem SI.start {base : Sub} {clock next : Int} (ha : base.acks = []) (hq : base.queue = []) : SI base clock next base.floor base :=
  ⟨rfl, by rw [ha]; simp, by rw [ha]; rfl, by rw [ha]; simp, by rw [hq]; simp, by rw [hq]; rfl, by rw [hq]; simp, Int.le_refl _⟩
theorem SI.ack {base : Sub} {clock next s s' : Int} {x : Sub} (h : SI base clock next s x) (h1 : s < s') (h2 : s' < next) (h3 : x.acks.length < 20) : SI base clock next s' { x with acks := x.acks ++ [s'] } := by
  refine ⟨?_, ?_, ?_, ?_, h.ql, h.qk, ?_, ?_⟩
  · have := h.eq
    show ({ x with acks := x.acks ++ [s'] } : Sub) = { base with acks := x.acks ++ [s'], queue := x.queue }
    rw [this]
  · show (x.acks ++ [s']).length ≤ 20
    simp
    omega
  · have := h.fl
    exact ack_snoc h2 h.ak (fun y hy => by have := h.au y hy; omega) (by omega)
  · intro y hy
    rcases List.mem_append.1 hy with hy | hy
    · have := h.au y hy; omega
    · rw [List.mem_singleton.1 hy]; exact Int.le_refl _
  · intro m hm
    obtain ⟨a, b, c, d⟩ := h.qs m hm
    refine ⟨by omega, ?_, c, d⟩
    show (x.acks ++ [s']).contains m.seq = false
    rw [List.contains_eq_mem] at b ⊢
    simp only [decide_eq_false_iff_not] at b ⊢
    intro e
    rcases List.mem_append.1 e with e | e
    · exact b e
    · have := List.mem_singleton.1 e; omega
  · have := h.fl; omega
theorem SI.msg {base : Sub} {clock next s s' : Int} {x : Sub} {m : Msg} (h : SI base clock next s x) (h1 : s < s') (h2 : s' < next) (h3 : x.queue.length < 30) (hm : m.seq = s') (hb : msgB m base.lease base.most clock = true) (ht : m.til ≤ 1000000000) :
    SI base clock next s' { x with queue := x.queue ++ [m] } := by
  have hfl := h.fl
  refine ⟨?_, h.al, h.ak, ?_, ?_, ?_, ?_, ?_⟩
  · have := h.eq
    show ({ x with queue := x.queue ++ [m] } : Sub) = { base with acks := x.acks, queue := x.queue ++ [m] }
    rw [this]
  · intro y hy
    have := h.au y hy; omega
  · show (x.queue ++ [m]).length ≤ 30
    simp
    omega
  · show ackB next base.floor ((x.queue ++ [m]).map (·.seq)) = true
    rw [List.map_append]
    show ackB next base.floor (x.queue.map (·.seq) ++ [m.seq]) = true
    rw [hm]
    refine ack_snoc h2 h.qk (fun y hy => ?_) (by omega)
    obtain ⟨m', hm', rfl⟩ := List.mem_map.1 hy
    have := (h.qs m' hm').1
    omega
  · intro m' hm'
    rcases List.mem_append.1 hm' with e | e
    · obtain ⟨a, b, c, d⟩ := h.qs m' e
      exact ⟨by omega, b, c, d⟩
    · rw [List.mem_singleton.1 e]
      refine ⟨by omega, ?_, hb, ht⟩
      show x.acks.contains m.seq = false
      rw [List.contains_eq_mem]
      simp only [decide_eq_false_iff_not]
      intro e2
      have := h.au _ e2
      omega
  · omega
theorem SI.good {base : Sub} {clock next s : Int} {x : Sub} (h : SI base clock next s x) (hb : BaseOk base next) (hi : 1 ≤ base.id ∧ base.id ≤ 1073741824) : goodB x clock next = true := by
  have he := h.eq
  have f1 : x.id = base.id := by rw [he]
  have f2 : x.name = base.name := by rw [he]
  have f3 : x.topic = base.topic := by rw [he]
  have f4 : x.want = base.want := by rw [he]
  have f5 : x.lease = base.lease := by rw [he]
  have f6 : x.most = base.most := by rw [he]
  have f7 : x.floor = base.floor := by rw [he]
  have f8 : x.note = base.note := by rw [he]
  rw [good_split, que_split, f1, f2, f3, f4, f5, f6, f7, f8, hb.name, hb.topic, hb.want, h.ak, h.qk]
  have hok : x.queue.all (okM x clock) = true := by
    rw [List.all_eq_true]
    intro m hm
    obtain ⟨a, b, c, d⟩ := h.qs m hm
    unfold okM
    rw [b, f5, f6, c]
    rfl
  rw [hok]
  simp [hb.lease.1, hb.lease.2, hb.most.1, hb.most.2, hb.floor.1, hb.floor.2, hb.note, h.al, h.ql, hi.1, hi.2]
end Go.Ts
