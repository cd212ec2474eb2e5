/-
  Words for a row of subscriptions of the call's own (layer state). No program but the seat's types.; Words for slices of structs in blocks of a known kind, kept while rows of another kind grow (layer state). No program but the seat's types.; Words for what is settled, rows of ints of the call's own (layer state). No program but the seat's types.; The contracts of slices.Clone of numbers and of messages, and of the program's own (layer state).; Words for rows of messages of the call's own, and for rows beside each other (layer state). No program but the seat's types.; The contract of the document's own Without (layer state).; The contract of the document's own Put (layer state).
-/
import Derived.RangeFuncBox
import Derived.Test.YtodckdkbheapfaaGreatKOH
set_option linter.unusedVariables false
set_option linter.unusedVariables false
namespace Go.Proofs.YtodckdkbheapfaaGreat
open Go.RowKit Go.Rst Go.Tp Go.Ts
theorem infoSub : (Tryz.prog.info? 30).map (fun i => (i.zero, i.size, i.bytes)) = some (some (.agg #[.int .i64 0, .string .empty, .string .empty, .string .empty, .int .i64 0, .int .i64 0, .int .i64 0, .slice none 0 0, .slice none 0 0, .string .empty]), 10, 144) := by kernel_rfl
def OS (w : World) (base : Nat) (wr : World) (v : Value) (ys : List Sub) : Prop := ∃ css : List (List Value), wr.ownsRow base 30 10 v ys.length css.flatten ∧ css.length = ys.length ∧ ∀ j (h1 : j < ys.length) (h2 : j < css.length), CS w ys[j] css[j]
theorem cs_len {w : World} {x : Sub} {cs : List Value} (h : CS w x cs) : cs.length = 10 := by obtain ⟨av, qv, rfl, _⟩ := h; rfl
theorem OS.nil_ (w : World) (base : Nat) (wr : World) : OS w base wr (.slice none 0 0) [] := ⟨[], World.ownsRow_nil _ _ _ _, rfl, fun j h => by simp at h⟩
theorem OS.rl {w : World} {base : Nat} {wr : World} {v : Value} {ys : List Sub} (h : OS w base wr v ys) : RSo w wr v ys := by
  obtain ⟨css, ho, hl, hc⟩ := h
  refine RL.own ho hl (fun cs hcs => ?_) (fun j h1 h2 => hc j h1 h2)
  obtain ⟨j, hj, rfl⟩ := List.getElem_of_mem hcs
  exact cs_len (hc j (by omega) hj)
theorem OS.push {w : World} {base : Nat} {w2 : World} {v2 : Value} {ys : List Sub} {y : Sub} {cs : List Value} {css : List (List Value)} (hl : css.length = ys.length) (hc : ∀ j (h1 : j < ys.length) (h2 : j < css.length), CS w ys[j] css[j]) (hy : CS w y cs)
    (ho : w2.ownsRow base 30 10 v2 (ys.length + 1) (css.flatten ++ cs)) : OS w base w2 v2 (ys ++ [y]) := by
  refine ⟨css ++ [cs], by rw [List.length_append, List.flatten_append]; simpa using ho, by simp [hl], fun j h1 h2 => ?_⟩
  by_cases hj : j < ys.length
  · rw [List.getElem_append_left hj, List.getElem_append_left (by omega)]; exact hc j hj (by omega)
  · have e : j = ys.length := by simp at h1; omega
    subst e
    rw [List.getElem_append_right (Nat.le_refl _), List.getElem_append_right (by omega)]
    simp only [hl, Nat.sub_self, List.getElem_cons_zero]
    exact hy
theorem OS.shape {w : World} {base : Nat} {wr : World} {v : Value} {ys : List Sub} (h : OS w base wr v ys) : ∃ A c, v = .slice A ys.length c ∧ ys.length ≤ c := by
  obtain ⟨css, ho, _⟩ := h; exact own_shape ho
theorem grown_cell (W : World) (b i : Nat) (v : Value) : W.grownBy (W.setCell ⟨b, i, none⟩ v) (some b) :=
  ⟨rfl, rfl, rfl, (KeepsWalks.setCell W _ v).size, fun k _ hk => Below.heap_setCell _ _ _ k (fun e => hk (by rw [e]))⟩
theorem grown_row (W : World) (b : Nat) (cs : Array Value) : W.grownBy (W.setRow b cs) (some b) :=
  ⟨rfl, rfl, rfl, by simp, fun k _ hk => setRow_other W b k cs (fun e => hk (by rw [e]))⟩
theorem OS.kept {w : World} {base : Nat} {wr w2 : World} {v : Value} {ys : List Sub} {g : Nat} (h : OS w base wr v ys) (hg : wr.grownBy w2 (some g)) (hb : g < base) : OS w base w2 v ys := by
  obtain ⟨css, ho, hl, hc⟩ := h
  refine ⟨css, ho.kept hg ?_, hl, hc⟩
  rcases ho.2 with ⟨rfl, _⟩ | ⟨k, cap, cur, rfl, hk, _⟩
  · exact .inl rfl
  · refine .inr fun e => ?_
    have : g = k := by simpa [Value.ownBlock] using e.symm
    omega
end Go.Proofs.YtodckdkbheapfaaGreat
set_option linter.unusedVariables false
namespace Go.Ts
open Go Go.RowKit Go.Rst Go.Tp
section
variable {α : Type} {sz : Nat} {C : World → α → List Value → Prop}
def RLt (t : TypeId) (sz : Nat) (C : World → α → List Value → Prop) (w : World) (v : Value) (xs : List α) : Prop :=
  RL sz C w v xs ∧ (xs = [] ∨ ∃ b off c cur, v = .slice (some ⟨b, off, none⟩) xs.length c ∧ w.heap[b]? = some (.cells cur t (0, 0)))
def Fixed (C : World → α → List Value → Prop) : Prop := ∀ w w' x cs, C w x cs → C w' x cs
theorem cells_block {w w' : World} {b off : Nat} {cs : List Value} (h : CellsAt w b off cs) (hb : w'.heap[b]? = w.heap[b]?) : CellsAt w' b off cs := fun i hi => by
  rw [← h i hi]
  simp only [World.cell?, hb]
theorem RLt.grown (hC : Fixed C) {t : TypeId} {w w' : World} {v : Value} {xs : List α} {row : Option Nat} (h : RLt t sz C w v xs) (hg : w.grownBy w' row) (hne : ∀ g, row = some g → ∃ cur t', w.heap[g]? = some (.cells cur t' (0, 0)) ∧ t' ≠ t) : RLt t sz C w' v xs := by
  obtain ⟨⟨A, c, h1, h2, h3, h4⟩, h5⟩ := h
  rcases h5 with h5 | ⟨b, off, c2, cur, h6, h7⟩
  · subst h5
    exact ⟨⟨A, c, h1, h2, h3, .inl rfl⟩, .inl rfl⟩
  · have hbn : some b ≠ row := by
      intro e
      obtain ⟨cur', t', h8, h9⟩ := hne b e.symm
      rw [h7] at h8
      injection h8 with h8
      injection h8 with _ h8 _
      exact h9 h8.symm
    have hb := (Array.getElem?_eq_some_iff.1 h7).1
    have hk := hg.block b hb hbn
    refine ⟨⟨A, c, h1, h2, h3, ?_⟩, .inr ⟨b, off, c2, cur, h6, hk.trans h7⟩⟩
    rcases h4 with h4 | ⟨b2, off2, h9, h10, h11⟩
    · exact .inl h4
    · rw [h6] at h1
      injection h1 with e1 _ _
      rw [h9] at e1
      injection e1 with e1
      injection e1 with e1 e2 _
      subst e1
      refine .inr ⟨b, off2, h9, Nat.lt_of_lt_of_le h10 hg.size, fun j hj => ?_⟩
      obtain ⟨cs, h12, h13⟩ := h11 j hj
      exact ⟨cs, hC _ _ _ _ h12, cells_block h13 hk⟩
theorem RLt.below (hC : Fixed C) {t : TypeId} {w w' : World} {v : Value} {xs : List α} (h : RLt t sz C w v xs) (hb : Below w.heap.size w w') : RLt t sz C w' v xs :=
  h.grown hC (row := none) ⟨hb.os, hb.tape, hb.output, hb.size, fun k hk _ => hb.block k hk⟩ (fun g e => by cases e)
theorem RLt.rl {t : TypeId} {w : World} {v : Value} {xs : List α} (h : RLt t sz C w v xs) : RL sz C w v xs := h.1
theorem RLt.nil_ (t : TypeId) (w : World) (A : Option Addr) (c : Nat) (hc : c ≤ maxLen) : RLt t sz C w (.slice A 0 c) [] := ⟨RL.nil_ w A c hc, .inl rfl⟩
theorem RLt.own {w : World} {base : Nat} {e : TypeId} {v : Value} {xs : List α} {css : List (List Value)} (h : w.ownsRow base e sz v xs.length css.flatten) (hl : css.length = xs.length) (hsz : ∀ cs ∈ css, cs.length = sz)
    (hC : ∀ j (h1 : j < xs.length) (h2 : j < css.length), C w xs[j] css[j]) : RLt e sz C w v xs := by
  refine ⟨RL.own h hl hsz hC, ?_⟩
  rcases h.2 with ⟨rfl, h0⟩ | ⟨g, cap, cur, rfl, hb, hg, hle, hcap, hcs, htk⟩
  · exact .inl (List.eq_nil_of_length_eq_zero h0)
  · exact .inr ⟨g, 0, cap, cur, rfl, hg⟩
end
theorem fixed_ci : Fixed CI := fun _ _ _ _ h => h
theorem fixed_cm : Fixed CM := fun _ _ _ _ h => h
end Go.Ts
namespace Go.Proofs.YtodckdkbheapfaaGreat
open Go.RowKit Go.Rst Go.Tp Go.Ts
def CN (w : World) (x : Sub) (cs : List Value) : Prop := ∃ av qv, cs = subC x av qv ∧ RLt 3 1 CI w av x.acks ∧ RLt 45 8 CM w qv x.queue
theorem CN.cs {w : World} {x : Sub} {cs : List Value} (h : CN w x cs) : CS w x cs := let ⟨av, qv, h1, h2, h3⟩ := h; ⟨av, qv, h1, h2.rl, h3.rl⟩
theorem CN.grown {w w' : World} {x : Sub} {cs : List Value} {row : Option Nat} (h : CN w x cs) (hg : w.grownBy w' row) (hne : ∀ g, row = some g → ∃ cur, w.heap[g]? = some (.cells cur 30 (0, 0))) : CN w' x cs := by
  obtain ⟨av, qv, h1, h2, h3⟩ := h
  exact ⟨av, qv, h1, h2.grown fixed_ci hg (fun g e => let ⟨cur, hc⟩ := hne g e; ⟨cur, _, hc, by decide⟩), h3.grown fixed_cm hg (fun g e => let ⟨cur, hc⟩ := hne g e; ⟨cur, _, hc, by decide⟩)⟩
theorem CN.below {w w' : World} {x : Sub} {cs : List Value} (h : CN w x cs) (hb : Below w.heap.size w w') : CN w' x cs := by
  obtain ⟨av, qv, h1, h2, h3⟩ := h
  exact ⟨av, qv, h1, h2.below fixed_ci hb, h3.below fixed_cm hb⟩
def ON (base : Nat) (wr : World) (v : Value) (ys : List Sub) : Prop := ∃ css : List (List Value), wr.ownsRow base 30 10 v ys.length css.flatten ∧ css.length = ys.length ∧ ∀ j (h1 : j < ys.length) (h2 : j < css.length), CN wr ys[j] css[j]
theorem ON.nil_ (base : Nat) (wr : World) : ON base wr (.slice none 0 0) [] := ⟨[], World.ownsRow_nil _ _ _ _, rfl, fun j h => by simp at h⟩
theorem ON.rs {base : Nat} {wr : World} {v : Value} {ys : List Sub} (h : ON base wr v ys) : RS wr v ys := by
  obtain ⟨css, ho, hl, hc⟩ := h
  refine RL.own ho hl (fun cs hcs => ?_) (fun j h1 h2 => (hc j h1 h2).cs)
  obtain ⟨j, hj, rfl⟩ := List.getElem_of_mem hcs
  exact cs_len (hc j (by omega) hj).cs
theorem ON.shape {base : Nat} {wr : World} {v : Value} {ys : List Sub} (h : ON base wr v ys) : ∃ A c, v = .slice A ys.length c ∧ ys.length ≤ c := by
  obtain ⟨css, ho, _⟩ := h; exact own_shape ho
theorem row_kind {w : World} {base : Nat} {e : TypeId} {sz : Nat} {v : Value} {n : Nat} {xs : List Value} (h : w.ownsRow base e sz v n xs) : ∀ g, v.ownBlock = some g → ∃ cur, w.heap[g]? = some (.cells cur e (0, 0)) := by
  intro g hg
  rcases h.2 with ⟨rfl, h0⟩ | ⟨k, cap, cur, rfl, hb, hk, _⟩
  · cases hg
  · have : k = g := by simpa [Value.ownBlock] using hg
    subst this
    exact ⟨cur, hk⟩
theorem ON.push {base : Nat} {wr w2 : World} {v v2 : Value} {ys : List Sub} {y : Sub} {cs : List Value} {css : List (List Value)} (ho0 : wr.ownsRow base 30 10 v ys.length css.flatten) (hl : css.length = ys.length)
    (hc : ∀ j (h1 : j < ys.length) (h2 : j < css.length), CN wr ys[j] css[j]) (hy : CN wr y cs)
    (ho : w2.ownsRow base 30 10 v2 (ys.length + 1) (css.flatten ++ cs)) (hg : wr.grownBy w2 v.ownBlock) : ON base w2 v2 (ys ++ [y]) := by
  have hk := row_kind ho0
  refine ⟨css ++ [cs], by rw [List.length_append, List.flatten_append]; simpa using ho, by simp [hl], fun j h1 h2 => ?_⟩
  by_cases hj : j < ys.length
  · rw [List.getElem_append_left hj, List.getElem_append_left (by omega)]; exact (hc j hj (by omega)).grown hg hk
  · have e : j = ys.length := by simp at h1; omega
    subst e
    rw [List.getElem_append_right (Nat.le_refl _), List.getElem_append_right (by omega)]
    simp only [hl, Nat.sub_self, List.getElem_cons_zero]
    exact hy.grown hg hk
theorem ON.below {base : Nat} {wr w2 : World} {v : Value} {ys : List Sub} (h : ON base wr v ys) (hb : Below wr.heap.size wr w2) : ON base w2 v ys := by
  obtain ⟨css, ho, hl, hc⟩ := h
  exact ⟨css, own_below ho hb, hl, fun j h1 h2 => (hc j h1 h2).below hb⟩
theorem ON.kept {base : Nat} {wr w2 : World} {v : Value} {ys : List Sub} {g : Nat} (h : ON base wr v ys) (hg : wr.grownBy w2 (some g)) (hb : g < base) (hk : ∃ cur t', wr.heap[g]? = some (.cells cur t' (0, 0)) ∧ t' ≠ 3 ∧ t' ≠ 45) : ON base w2 v ys := by
  obtain ⟨css, ho, hl, hc⟩ := h
  refine ⟨css, ho.kept hg ?_, hl, fun j h1 h2 => ?_⟩
  · rcases ho.2 with ⟨rfl, _⟩ | ⟨k, cap, cur, rfl, hk, _⟩
    · exact .inl rfl
    · refine .inr fun e => ?_
      have : g = k := by simpa [Value.ownBlock] using e.symm
      omega
  · obtain ⟨av, qv, h1, h2, h3⟩ := hc j h1 h2
    obtain ⟨cur, t', hk1, hk2, hk3⟩ := hk
    exact ⟨av, qv, h1, h2.grown fixed_ci hg (fun g' e => by cases e; exact ⟨cur, t', hk1, hk2⟩), h3.grown fixed_cm hg (fun g' e => by cases e; exact ⟨cur, t', hk1, hk3⟩)⟩
end Go.Proofs.YtodckdkbheapfaaGreat
set_option linter.unusedVariables false
namespace Go.Ts
def upL (F : Int) (l : List Int) : List Int := l.filter fun n => decide (F < n)
theorem upL_take {F : Int} {l : List Int} {k : Nat} (hk : k < l.length) : upL F (l.take (k + 1)) = upL F (l.take k) ++ (if F < l[k] then [l[k]] else []) := by
  unfold upL
  rw [List.take_succ_eq_append_getElem hk, List.filter_append]
  congr 1
  by_cases h : F < l[k]
  · rw [if_pos h]; simp [h]
  · rw [if_neg h]; simp [h]
end Go.Ts
namespace Go.Proofs.YtodckdkbheapfaaGreat
open Go.RowKit Go.Rst Go.Tp Go.Ts
theorem infoNum : (Tryz.prog.info? 3).map (fun i => (i.zero, i.size, i.bytes)) = some (some (.int .i64 0), 1, 8) := by kernel_rfl
def iv (n : Int) : Value := .int .i64 n
def OI (base : Nat) (wr : World) (v : Value) (ys : List Int) : Prop := wr.ownsRow base 3 1 v ys.length (ys.map iv)
theorem OI.nil_ (base : Nat) (wr : World) : OI base wr (.slice none 0 0) [] := World.ownsRow_nil _ _ _ _
theorem OI.rl {base : Nat} {wr : World} {v : Value} {ys : List Int} (h : OI base wr v ys) : RI wr v ys := by
  have e : (ys.map fun n => [iv n]).flatten = ys.map iv := by
    induction ys with
    | nil => rfl
    | cons a l ih =>
      have : ∀ l : List Int, (l.map fun n => [iv n]).flatten = l.map iv := fun l => by induction l with
        | nil => rfl
        | cons a l ih => simp [ih]
      exact this _
  unfold OI at h
  rw [← e] at h
  refine RL.own h (by simp) (fun cs hcs => ?_) (fun j h1 h2 => ?_)
  · obtain ⟨n, _, rfl⟩ := List.mem_map.1 hcs; rfl
  · rw [List.getElem_map]; rfl
theorem OI.kept {base : Nat} {wr w2 : World} {v : Value} {ys : List Int} {g : Nat} (h : OI base wr v ys) (hg : wr.grownBy w2 (some g)) (hb : g < base) : OI base w2 v ys := by
  refine World.ownsRow.kept h hg ?_
  rcases h.2 with ⟨rfl, _⟩ | ⟨k, cap, cur, rfl, hk, _⟩
  · exact .inl rfl
  · refine .inr fun e => ?_
    have : g = k := by simpa [Value.ownBlock] using e.symm
    omega
def GivesSub (w : World) (x : Sub) (e : Ending) (w' : World) : Prop := ∃ av qv, e = .returned (.agg (subC x av qv).toArray) ∧ RI w' av x.acks ∧ RM w' qv x.queue ∧ Below w.heap.size w w'
end Go.Proofs.YtodckdkbheapfaaGreat
set_option linter.unusedVariables false
namespace Go.Ts
open Go Go.RowKit Go.Rst Go.Tp
def Sized (x : Sub) : Prop := x.acks.length ≤ 17592186043904 ∧ x.queue.length ≤ 1599289640354
theorem Sized.few {x : Sub} (h1 : x.acks.length ≤ 1000000) (h2 : x.queue.length ≤ 1000000) : Sized x := ⟨by omega, by omega⟩
theorem src_rl {α : Type} {sz : Nat} {f : α → List Value} (hlen : ∀ x, (f x).length = sz) (hone : ∀ x, ∀ u ∈ f x, u.oneCell' = true) {P : Program} {w : World} {v : Value} {xs : List α} (h : RL sz (fun _ x cs => cs = f x) w v xs) {tx e : TypeId} (hk : P.underlying tx = some (.slice e)) :
    Src P sz tx v xs.length (xs.map f).flatten w := by
  obtain ⟨A, c, rfl, h2, h3, h4⟩ := h
  have hfl : (xs.map f).flatten.length = xs.length * sz := by
    rw [flatten_len _ (fun cs hcs => by obtain ⟨x, _, rfl⟩ := List.mem_map.1 hcs; exact hlen x), List.length_map]
  have hall : ∀ u ∈ (xs.map f).flatten, u.oneCell' = true := fun u hu => by
    obtain ⟨cs, hcs, hu⟩ := List.mem_flatten.1 hu
    obtain ⟨x, _, rfl⟩ := List.mem_map.1 hcs
    exact hone x u hu
  rcases h4 with h4 | ⟨b, off, rfl, hb, hj⟩
  · subst h4
    cases A with
    | none => exact Src.ofNil _ hk c
    | some a => exact Src.ofSlice _ hk a 0 c [] (by simp) (fun j x hj => by simp at hj) (fun u hu => by cases hu)
  · refine Src.ofSlice _ hk ⟨b, off, none⟩ _ c _ hfl (fun j x hx => ?_) hall
    rw [Addr.add_lit]
    have hlt := (List.getElem?_eq_some_iff.1 hx).1
    rw [hfl] at hlt
    have hsz : 0 < sz := by
      rcases Nat.eq_zero_or_pos sz with h0 | h0
      · rw [h0] at hlt; omega
      · exact h0
    have hq : j / sz < xs.length := by rw [Nat.div_lt_iff_lt_mul hsz]; exact hlt
    have hr := Nat.mod_lt j hsz
    obtain ⟨cs, hcs, hcell⟩ := hj (j / sz) hq
    have hg := flatten_get (sz := sz) (xs.map f) (fun cs hcs => by obtain ⟨x, _, rfl⟩ := List.mem_map.1 hcs; exact hlen x) (j / sz) (by simpa using hq) (j % sz) (by rw [List.getElem_map, hlen]; exact hr)
    have hjj : j / sz * sz + j % sz = j := by rw [Nat.mul_comm]; exact Nat.div_add_mod j sz
    rw [hjj, hx] at hg
    injection hg with hg
    have hc := hcell (j % sz) (by rw [hcs, hlen]; exact hr)
    rw [show off + j = off + j / sz * sz + j % sz by omega, hc, hg]
    subst hcs
    simp [List.getElem_map]
theorem src_ints {P : Program} {w : World} {v : Value} {xs : List Int} (h : RI w v xs) {tx e : TypeId} (hk : P.underlying tx = some (.slice e)) : Src P 1 tx v xs.length (xs.map fun n => [Value.int .i64 n]).flatten w :=
  src_rl (f := fun n => [Value.int .i64 n]) (fun _ => rfl) (fun x u hu => by rw [List.mem_singleton.1 hu]; rfl) h hk
theorem msg_one (m : Msg) : ∀ u ∈ msgC m, u.oneCell' = true := by
  intro u hu
  simp only [msgC, List.mem_cons, List.not_mem_nil, or_false] at hu
  rcases hu with rfl | rfl | rfl | rfl | rfl | rfl | rfl | rfl <;> rfl
theorem src_msgs {P : Program} {w : World} {v : Value} {xs : List Msg} (h : RM w v xs) {tx e : TypeId} (hk : P.underlying tx = some (.slice e)) : Src P 8 tx v xs.length (xs.map msgC).flatten w :=
  src_rl (f := msgC) (fun _ => rfl) msg_one h hk
theorem rlt_ints {w : World} {base : Nat} {e : TypeId} {v : Value} {xs : List Int} (h : w.ownsRow base e 1 v xs.length (xs.map fun n => [Value.int .i64 n]).flatten) : RLt e 1 CI w v xs := by
  refine RLt.own h (by simp) (fun cs hcs => ?_) (fun j h1 h2 => ?_)
  · obtain ⟨n, _, rfl⟩ := List.mem_map.1 hcs; rfl
  · rw [List.getElem_map]; rfl
theorem rlt_msgs {w : World} {base : Nat} {e : TypeId} {v : Value} {xs : List Msg} (h : w.ownsRow base e 8 v xs.length (xs.map msgC).flatten) : RLt e 8 CM w v xs := by
  refine RLt.own h (by simp) (fun cs hcs => ?_) (fun j h1 h2 => ?_)
  · obtain ⟨n, _, rfl⟩ := List.mem_map.1 hcs; rfl
  · rw [List.getElem_map]; rfl
end Go.Ts
namespace Go.Proofs.YtodckdkbheapfaaGreat
open Go.RowKit Go.Rst Go.Tp Go.Ts
theorem eql_nilS (w : World) (t e : TypeId) (a : Option Addr) (l c : Nat) (h : Tryz.prog.underlying t = some (.slice e)) : (binOp .eql t (.slice a l c) (.slice none 0 0)).run Tryz.prog w = .ok (.bool a.isNone) w := by
  have := run_equal_slice_nil (P := Tryz.prog) w t e a l c h
  simp [binOp, this]
theorem own_emptyS (w : World) (e : TypeId) (size : Nat) : (w.alloc (Obj.cells #[] e)).ownsRow w.heap.size e size (.slice (some ⟨w.heap.size, 0, none⟩) 0 0) 0 [] :=
  ⟨by simp, .inr ⟨w.heap.size, 0, #[], rfl, Nat.le_refl _, heap_alloc_new w _, Nat.le_refl _, Nat.zero_le _, by simp, by simp⟩⟩
theorem infoMsg : (Tryz.prog.info? 45).map (fun i => (i.zero, i.size, i.bytes)) = some (some (.agg #[.int .i64 0, .string .empty, .string .empty, .int .i64 0, .int .i64 0, .bool false, .string .empty, .int .i64 0]), 8, 88) := by kernel_rfl
set_option maxRecDepth 100000 in
set_option maxHeartbeats 1000000 in
theorem cloneI_any (v : Value) (xs : List Int) (w : World) (h : RI w v xs) (hl : xs.length * 8 ≤ 140737488355328) :
    Calls Tryz.prog 42 #[v] w fun e w' => ∃ u, e = .returned u ∧ RLt 3 1 CI w' u xs ∧ Below w.heap.size w w' := by
  have HS := Lib.hid (src_ints (P := Tryz.prog) (h.below stays_ci ((Below.refl w.heap.size w).alloc (Nat.le_refl _) (Obj.cells #[] 3))) Tryz.underlying27)
  have HLM := Lib.hid (show 0 + xs.length ≤ maxLen by unfold maxLen; omega)
  have HLB := Lib.hid (show (0 + xs.length) * 8 ≤ 140737488355328 by omega)
  have HO := Lib.hid (own_emptyS w 3 1)
  obtain ⟨A, c, rfl, _, _, h3⟩ := h
  cases A with
  | none =>
    have hl0 : xs = [] := by
      rcases h3 with h3 | ⟨b, off, h4, _⟩
      · exact h3
      · cases h4
    subst hl0
    have e1 : (binOp .eql 27 (.slice none 0 c) (.slice none 0 0)).run Tryz.prog w = .ok (.bool true) w := eql_nilS w 27 3 none 0 c Tryz.underlying27
    rw [List.length_nil]
    clear h3
    go_enter Tryz.func42, Tryz.ntmps42
    go_wp2
    go_ret
    exact ⟨_, rfl, RLt.nil_ _ _ _ _ (by decide), Below.refl _ _⟩
  | some a =>
    have e1 : (binOp .eql 27 (.slice (some a) xs.length c) (.slice none 0 0)).run Tryz.prog w = .ok (.bool false) w := eql_nilS w 27 3 (some a) xs.length c Tryz.underlying27
    clear h3
    go_enter Tryz.func42, Tryz.ntmps42
    go_wp2_with (at_builtin; refine wpList_own rfl (.tmp 5) (.tmp 6) 27 27 rfl w.heap.size 3 (.int .i64 0) 1 8 Tryz.underlying27 infoNum rfl rfl HO.out rfl HS.out ((Below.refl w.heap.size w).alloc (Nat.le_refl _) _) (Nat.le_refl _) HLM.out HLB.out (by simp) ?_)
    intro v5 w5 hown5 hbel5 _
    have HO5 := Lib.hid hown5
    have HB5 := Lib.hid hbel5
    obtain ⟨A5, c5, rfl, _⟩ := own_shape hown5
    clear hown5 hbel5
    go_wp2
    go_ret
    exact ⟨_, rfl, rlt_ints HO5.out, HB5.out⟩
set_option maxRecDepth 100000 in
set_option maxHeartbeats 1000000 in
theorem cloneM_any (v : Value) (xs : List Msg) (w : World) (h : RM w v xs) (hl : xs.length * 88 ≤ 140737488355328) :
    Calls Tryz.prog 43 #[v] w fun e w' => ∃ u, e = .returned u ∧ RLt 45 8 CM w' u xs ∧ Below w.heap.size w w' := by
  have HS := Lib.hid (src_msgs (P := Tryz.prog) (h.below stays_cm ((Below.refl w.heap.size w).alloc (Nat.le_refl _) (Obj.cells #[] 45))) Tryz.underlying28)
  have HLM := Lib.hid (show 0 + xs.length ≤ maxLen by unfold maxLen; omega)
  have HLB := Lib.hid (show (0 + xs.length) * 88 ≤ 140737488355328 by omega)
  have HO := Lib.hid (own_emptyS w 45 8)
  obtain ⟨A, c, rfl, _, _, h3⟩ := h
  cases A with
  | none =>
    have hl0 : xs = [] := by
      rcases h3 with h3 | ⟨b, off, h4, _⟩
      · exact h3
      · cases h4
    subst hl0
    have e1 : (binOp .eql 28 (.slice none 0 c) (.slice none 0 0)).run Tryz.prog w = .ok (.bool true) w := eql_nilS w 28 45 none 0 c Tryz.underlying28
    rw [List.length_nil]
    clear h3
    go_enter Tryz.func43, Tryz.ntmps43
    go_wp2
    go_ret
    exact ⟨_, rfl, RLt.nil_ _ _ _ _ (by decide), Below.refl _ _⟩
  | some a =>
    have e1 : (binOp .eql 28 (.slice (some a) xs.length c) (.slice none 0 0)).run Tryz.prog w = .ok (.bool false) w := eql_nilS w 28 45 (some a) xs.length c Tryz.underlying28
    clear h3
    go_enter Tryz.func43, Tryz.ntmps43
    go_wp2_with (at_builtin; refine wpList_own rfl (.tmp 5) (.tmp 6) 28 28 rfl w.heap.size 45 (.agg #[.int .i64 0, .string .empty, .string .empty, .int .i64 0, .int .i64 0, .bool false, .string .empty, .int .i64 0]) 8 88 Tryz.underlying28 infoMsg rfl rfl HO.out rfl HS.out ((Below.refl w.heap.size w).alloc (Nat.le_refl _) _) (Nat.le_refl _) HLM.out HLB.out (by simp) ?_)
    intro v5 w5 hown5 hbel5 _
    have HO5 := Lib.hid hown5
    have HB5 := Lib.hid hbel5
    obtain ⟨A5, c5, rfl, _⟩ := own_shape hown5
    clear hown5 hbel5
    go_wp2
    go_ret
    exact ⟨_, rfl, rlt_msgs HO5.out, HB5.out⟩
def GivesOwn (w : World) (x : Sub) (e : Ending) (w' : World) : Prop := ∃ cs, e = .returned (.agg cs.toArray) ∧ CN w' x cs ∧ Below w.heap.size w w'
set_option maxRecDepth 100000 in
set_option maxHeartbeats 4000000 in
theorem own_any (x : Sub) (av qv : Value) (w : World) (ha : RI w av x.acks) (hq : RM w qv x.queue) (hz : Sized x) :
    Calls Tryz.prog 103 #[.agg (subC x av qv).toArray] w (GivesOwn w x) := by
  have hone := sub_all x (rl_one ha) (rl_one hq)
  obtain ⟨hz1, hz2⟩ := hz
  obtain ⟨Aa, ka, rfl, _, ham⟩ := ha.shape
  obtain ⟨Aq, kq, rfl, _, hqm⟩ := hq.shape
  unfold maxLen at ham hqm
  obtain ⟨Z, hZ⟩ : ∃ Z : List Value, Z = [.int .i64 0, .string ⟨#[]⟩, .string ⟨#[]⟩, .string ⟨#[]⟩, .int .i64 0, .int .i64 0, .int .i64 0, .slice none 0 0, .slice none 0 0, .string ⟨#[]⟩] := ⟨_, rfl⟩
  obtain ⟨W0, hW0⟩ : ∃ W0, W0 = (w.alloc (.cells (subC x (.slice Aa x.acks.length ka) (.slice Aq x.queue.length kq)).toArray 30)).alloc (.cells Z.toArray 30) := ⟨_, rfl⟩
  have hx0 : Wh W0 w.heap.size (subC x (.slice Aa x.acks.length ka) (.slice Aq x.queue.length kq)) 30 := by rw [hW0]; exact (Wh.new w _ _).alloc _
  have ho0 : Wh W0 (w.heap.size + 1) Z 30 := by
    have := Wh.new (w.alloc (.cells (subC x (.slice Aa x.acks.length ka) (.slice Aq x.queue.length kq)).toArray 30)) Z 30
    rw [World.size_alloc] at this
    rw [hW0]; exact this
  have hb0 : Below w.heap.size w W0 := by rw [hW0]; exact below_two w _ _ _ _
  have hs0 : W0.heap.size = w.heap.size + 2 := by rw [hW0]; simp
  have HCA := Lib.hid (cloneI_any (.slice Aa x.acks.length ka) x.acks W0 (ha.below stays_ci hb0) (by omega))
  have HQ := Lib.hid hq
  have HX0 := Lib.hid hx0
  have HO0 := Lib.hid ho0
  have HB0 := Lib.hid hb0
  have HS0 := Lib.hid hs0
  have HL2 := Lib.hid hz2
  have HZL := Lib.hid (show Z.toArray.size = 10 by rw [hZ]; rfl)
  rw [hZ] at hW0
  obtain ⟨xx, hxx⟩ : ∃ xx, xx = x := ⟨_, rfl⟩
  rw [show GivesOwn w x = GivesOwn w xx by rw [hxx]]
  have HXX := Lib.hid hxx
  clear ha hq hx0 ho0 hb0 hs0 hz1 hz2 hZ hone hxx
  obtain ⟨id, name, topic, want, lease, most, floor, acks, queue, note⟩ := x
  simp only [subC] at HX0 hW0 HCA HQ ⊢
  go_enter Tryz.func103, Tryz.ntmps103
  go_wp2_with fail
  rw [← hW0]
  clear hW0
  refine HCA.out.mono ?_
  rintro e w1 ⟨u, rfl, hu, hb1⟩
  have hbt := HB0.out.trans (hb1.mono HB0.out.size)
  obtain ⟨Au, ku, rfl, _, hum⟩ := hu.rl.shape
  unfold maxLen at hum
  have hx1 := HX0.out.below hb1
  have hx2 := hx1.set1 7 (.slice Au acks.length ku)
  simp only [List.set_cons_succ, List.set_cons_zero] at hx2
  have ho2 := (HO0.out.below hb1).set1Other (k := w.heap.size) (by omega) 7 (.slice Au acks.length ku)
  have f7 := hx1.frozen 7
  have c7 := hx1.bx.cell (i := 7) (by simp)
  simp only [List.getElem_cons_succ, List.getElem_cons_zero] at c7
  have hu2 := hu.grown fixed_ci (grown_cell w1 w.heap.size 7 (.slice Au acks.length ku)) (fun g e => by cases e; exact ⟨_, _, hx1, by decide⟩)
  have hbs := hbt.setCell (p := ⟨w.heap.size, 7, none⟩) (Nat.le_refl _) (.slice Au acks.length ku)
  have hsz2 : (w1.setCell ⟨w.heap.size, 7, none⟩ (.slice Au acks.length ku)).heap.size = w1.heap.size := by simp
  have hl1 := hx1.lt
  have hl2 := ho2.lt
  obtain ⟨W2, hW2⟩ : ∃ W2, W2 = w1.setCell ⟨w.heap.size, 7, none⟩ (.slice Au acks.length ku) := ⟨_, rfl⟩
  rw [← hW2] at hx2 ho2 hu2 hbs hsz2 hl2
  have c8 := hx2.bx.cell (i := 8) (by simp)
  simp only [List.getElem_cons_succ, List.getElem_cons_zero] at c8
  rw [hW2] at c8
  have HX2 := Lib.hid hx2
  have HO2 := Lib.hid ho2
  have HU2 := Lib.hid hu2
  have HB2 := Lib.hid hbs
  have HZ2 := Lib.hid hsz2
  have HL := Lib.hid hl1
  have HLB := Lib.hid hl2
  have HCM := Lib.hid (cloneM_any (.slice Aq queue.length kq) queue W2 (HQ.out.below stays_cm (HB2.out.mono (Nat.le_refl _))) (Nat.le_trans (Nat.mul_le_mul_right 88 HL2.out) (by decide)))
  clear hu hb1 hbt hx1 hx2 ho2 hu2 hbs hsz2 hl1 hl2 HX0 HO0 HCA
  go_wp2_with fail
  rw [← hW2]
  clear hW2 c8 f7 c7
  refine HCM.out.mono ?_
  rintro e w3 ⟨u3, rfl, hu3, hb3⟩
  obtain ⟨A3, k3, rfl, _, hum3⟩ := hu3.rl.shape
  unfold maxLen at hum3
  have hbt3 := HB2.out.trans (hb3.mono HB2.out.size)
  have hx3 := HX2.out.below hb3
  have hx4 := hx3.set1 8 (.slice A3 queue.length k3)
  simp only [List.set_cons_succ, List.set_cons_zero] at hx4
  have hl0 := HLB.out
  have hs0 := HS0.out
  have ho4 := (HO2.out.below hb3).set1Other (k := w.heap.size) (by omega) 8 (.slice A3 queue.length k3)
  have f8 := hx3.frozen 8
  have c8 := hx3.bx.cell (i := 8) (by simp)
  simp only [List.getElem_cons_succ, List.getElem_cons_zero] at c8
  have hg4 := grown_cell w3 w.heap.size 8 (.slice A3 queue.length k3)
  have hu4 := hu3.grown fixed_cm hg4 (fun g e => by cases e; exact ⟨_, _, hx3, by decide⟩)
  have hu5 := (HU2.out.below fixed_ci hb3).grown fixed_ci hg4 (fun g e => by cases e; exact ⟨_, _, hx3, by decide⟩)
  have hbs4 := hbt3.setCell (p := ⟨w.heap.size, 8, none⟩) (Nat.le_refl _) (.slice A3 queue.length k3)
  have hr4 := hx4.range
  have hva : (#[.int .i64 id, sv name, sv topic, sv want, .int .i64 lease, .int .i64 most, .int .i64 floor, .slice Au acks.length ku, .slice A3 queue.length k3, sv note] : Array Value).all (·.oneCell') = true := sub_all ⟨id, name, topic, want, lease, most, floor, acks, queue, note⟩ (av := .slice Au acks.length ku) (qv := .slice A3 queue.length k3) rfl rfl
  have HR4 := Lib.hid hr4
  have HO4 := Lib.hid ho4
  have HU4 := Lib.hid hu4
  have HU5 := Lib.hid hu5
  have HB4 := Lib.hid hbs4
  have HVA := Lib.hid hva
  clear hu3 hb3 hx3 hx4 ho4 hg4 hu4 hu5 hbs4 hr4 hva hbt3
  go_wp2_with (first
    | (refine wpList_load_midG (by rfl) 30 (.tmp 1) rfl w.heap.size 0 rfl _ _ HR4.out Tryz.underlying30 rfl size35 ?_)
    | (refine wpList_store_row rfl 30 (.tmp 2) (.tmp 11) rfl (w.heap.size + 1) #[.int .i64 id, sv name, sv topic, sv want, .int .i64 lease, .int .i64 most, .int .i64 floor, .slice Au acks.length ku, .slice A3 queue.length k3, sv note] rfl rfl 30 Z.toArray HO4.out size35 HZL.out HVA.out ?_))
  refine bodyPost_ret (results_cell_row rfl _ _ (w.heap.size + 1) 30 #[.int .i64 id, sv name, sv topic, sv want, .int .i64 lease, .int .i64 most, .int .i64 floor, .slice Au acks.length ku, .slice A3 queue.length k3, sv note] (0, 0) _ rfl (HO4.out.set [.int .i64 id, sv name, sv topic, sv want, .int .i64 lease, .int .i64 most, .int .i64 floor, .slice Au acks.length ku, .slice A3 queue.length k3, sv note]) Tryz.underlying30 rfl size35) rfl ?_
  rw [HXX.out]
  have hgr := grown_row (w3.setCell ⟨w.heap.size, 8, none⟩ (.slice A3 queue.length k3)) (w.heap.size + 1) #[.int .i64 id, sv name, sv topic, sv want, .int .i64 lease, .int .i64 most, .int .i64 floor, .slice Au acks.length ku, .slice A3 queue.length k3, sv note]
  refine ⟨_, rfl, ⟨_, _, rfl, ?_, ?_⟩, below_setRow HB4.out (by omega) #[.int .i64 id, sv name, sv topic, sv want, .int .i64 lease, .int .i64 most, .int .i64 floor, .slice Au acks.length ku, .slice A3 queue.length k3, sv note]⟩
  · exact HU5.out.grown fixed_ci hgr (fun g e => by cases e; exact ⟨_, _, HO4.out, by decide⟩)
  · exact HU4.out.grown fixed_cm hgr (fun g e => by cases e; exact ⟨_, _, HO4.out, by decide⟩)
end Go.Proofs.YtodckdkbheapfaaGreat
set_option linter.unusedVariables false
namespace Go.Proofs.YtodckdkbheapfaaGreat
open Go.RowKit Go.Rst Go.Tp Go.Ts
def OM (base : Nat) (wr : World) (v : Value) (xs : List Msg) : Prop := wr.ownsRow base 45 8 v xs.length (xs.map msgC).flatten
theorem OM.nil_ (base : Nat) (wr : World) : OM base wr (.slice none 0 0) [] := World.ownsRow_nil _ _ _ _
theorem OM.rl {base : Nat} {wr : World} {v : Value} {xs : List Msg} (h : OM base wr v xs) : RM wr v xs := (rlt_msgs h).rl
theorem own_two {w w' : World} {B B2 : Nat} {e1 e2 : TypeId} {s1 s2 n1 n2 : Nat} {v1 v2 : Value} {xs1 xs2 : List Value} (h1 : w.ownsRow B e1 s1 v1 n1 xs1) (h2 : w.ownsRow B2 e2 s2 v2 n2 xs2) (hne : e1 ≠ e2) (hg : w.grownBy w' v2.ownBlock) : w'.ownsRow B e1 s1 v1 n1 xs1 := by
  cases hb : v2.ownBlock with
  | none => rw [hb] at hg; exact own_below h1 ⟨hg.os, hg.tape, hg.output, hg.size, fun k hk => hg.block k hk (by simp)⟩
  | some g =>
    obtain ⟨cur, hc⟩ := row_kind h2 g hb
    rw [hb] at hg
    refine h1.kept hg ?_
    rcases h1.2 with ⟨rfl, _⟩ | ⟨k, cap, cur', rfl, hk, hk2, _⟩
    · exact .inl rfl
    · refine .inr fun e => ?_
      have : g = k := by simpa [Value.ownBlock] using e.symm
      subst this
      rw [hc] at hk2
      injection hk2 with hk2
      injection hk2 with _ hk2 _
      exact hne hk2.symm
theorem own_apart {w w' : World} {B : Nat} {e : TypeId} {s n : Nat} {v : Value} {xs : List Value} {g : Nat} (h : w.ownsRow B e s v n xs) (hg : w.grownBy w' (some g)) (hne : ∀ k, v.ownBlock = some k → k ≠ g) : w'.ownsRow B e s v n xs := by
  refine h.kept hg ?_
  rcases h.2 with ⟨rfl, _⟩ | ⟨k, cap, cur', rfl, hk, hk2, _⟩
  · exact .inl rfl
  · refine .inr fun e => ?_
    have : g = k := by simpa [Value.ownBlock] using e.symm
    exact hne k (by simp [Value.ownBlock]) this.symm
theorem own_lt {w : World} {B : Nat} {e : TypeId} {s n : Nat} {v : Value} {xs : List Value} (h : w.ownsRow B e s v n xs) : ∀ k, v.ownBlock = some k → k < w.heap.size := fun k hk => by
  obtain ⟨cur, hc⟩ := row_kind h k hk
  exact (Array.getElem?_eq_some_iff.1 hc).1
end Go.Proofs.YtodckdkbheapfaaGreat
set_option linter.unusedVariables false
namespace Go.Proofs.YtodckdkbheapfaaGreat
open Go.RowKit Go.Rst Go.Tp Go.Ts
def GivesSt (w0 w : World) (c n l : Int) (xs : List Sub) (e : Ending) (w' : World) : Prop := ∃ v, e = .returned (.agg (stC c n l v).toArray) ∧ RSo w0 w' v xs ∧ Below w.heap.size w w'
set_option maxRecDepth 100000 in
set_option maxHeartbeats 8000000 in
theorem without_any (c n l : Int) (v : Value) (xs : List Sub) (id : Int) (w0 w : World) (h : RSo w0 w v xs) (hxl : xs.length ≤ 977343669110) : Calls Tryz.prog 39 #[.agg (stC c n l v).toArray, .int .i64 id] w (GivesSt w0 w c n l (outS xs id)) := by
  have HV := Lib.hid h
  obtain ⟨A, ca, rfl, hac, ham⟩ := h.shape
  unfold maxLen at ham
  clear h
  unfold stC
  obtain ⟨O, hO⟩ : ∃ O : List Value, O = [.int .i64 0, .int .i64 0, .int .i64 0, .slice none 0 0] := ⟨_, rfl⟩
  obtain ⟨W0, hW0⟩ : ∃ W0, W0 = (w.alloc (.cells #[.int .i64 c, .int .i64 n, .int .i64 l, .slice A xs.length ca] 25)).alloc (.cells O.toArray 25) := ⟨_, rfl⟩
  have hwh : Wh W0 (w.heap.size + 1) O 25 := by
    have := Wh.new (w.alloc (.cells #[.int .i64 c, .int .i64 n, .int .i64 l, .slice A xs.length ca] 25)) O 25
    rw [World.size_alloc, ← hW0] at this
    exact this
  have hst : Wh W0 w.heap.size [.int .i64 c, .int .i64 n, .int .i64 l, .slice A xs.length ca] 25 := by
    rw [hW0]; exact (Wh.new w _ _).alloc _
  have hbl : Below w.heap.size w W0 := by rw [hW0]; exact below_two w _ _ _ _
  have hsz : W0.heap.size = w.heap.size + 2 := by rw [hW0]; simp
  rw [hO] at hW0
  have HOL := Lib.hid (show O.toArray.size = 4 by rw [hO]; rfl)
  go_enter Tryz.func39, Tryz.ntmps39
  go_wp2_with fail
  rw [← hW0]
  have HWH := Lib.hid hwh
  have HST := Lib.hid hst
  have HBL := Lib.hid hbl
  have HSZ := Lib.hid hsz
  clear hW0 hwh hst hbl hO hsz
  go_loopw [5, 6] (fun lv i wr => ∃ k : Nat, k ≤ xs.length ∧ i = .int .i64 k ∧ OS w0 W0.heap.size wr lv (outS (xs.take k) id) ∧ Below W0.heap.size W0 wr) (fun _ i _ => xs.length - (intOf i).toNat)
  case atStart => exact ⟨0, Nat.zero_le _, rfl, OS.nil_ _ _ _, Below.refl _ _⟩
  case round =>
    obtain ⟨k, hk, rfl, hos, hbel⟩ := hrel
    have hsh := hos.shape
    obtain ⟨A2, c2, rfl, hc2⟩ := hsh
    have HOS := Lib.hid hos
    have HBW := Lib.hid hbel
    have HBT := Lib.hid (HBL.out.trans (hbel.mono HBL.out.size))
    have hst2 := HST.out.below hbel
    have HST2 := Lib.hid hst2
    have HWH2 := Lib.hid (HWH.out.below hbel)
    have c3 := hst2.bx.cell (i := 3) (by simp)
    simp only [List.getElem_cons_succ, List.getElem_cons_zero] at c3
    have hol := outS_len (xs.take k) id
    rw [List.length_take] at hol
    clear hos hbel hst2
    by_cases hlt : k < xs.length
    · obtain ⟨b, off, av, qv, rfl, hb, hrg0, hra, hrq⟩ := rso_at HV.out hlt
      have hrg := range_below hrg0 hb HBT.out
      have hc0 := hrg 0 (.int .i64 xs[k].id) rfl
      rw [Nat.add_zero] at hc0
      have htk := outS_take (id := id) hlt
      obtain ⟨x, hx⟩ : ∃ x, x = xs[k] := ⟨_, rfl⟩
      rw [← hx] at hc0 hrg hra hrq htk
      have HCS := Lib.hid (show CS w0 x (subC x av qv) from ⟨av, qv, rfl, hra, hrq⟩)
      have hall2 := sub_all x (rl_one hra) (rl_one hrq)
      have HRG := Lib.hid hrg
      have q1 : (k : Int) < (xs.length : Int) := by omega
      have hra0 := hra
      have hrq0 := hrq
      clear hx hrg hrg0 hra hrq
      by_cases he : x.id = id
      · have q2 : (x.id == id) = true := by rw [he]; simp
        rw [if_pos he, List.append_nil] at htk
        have HTK := Lib.hid htk
        clear he htk hall2 hra0 hrq0
        go_wp2
        go_roundw
        case rel => exact ⟨k + 1, by omega, by go_num, by rw [HTK.out]; exact HOS.out, HBW.out⟩
        case measure => simp [intOf]; omega
      · have q2 : (x.id == id) = false := by simpa using he
        rw [if_neg he] at htk
        have HTK := Lib.hid htk
        obtain ⟨css, hown, hcl, hcc⟩ := HOS.out
        have HOW := Lib.hid hown
        have HCC := Lib.hid hcc
        have HSR := Lib.hid (fun (u : World) => src_cells (P := Tryz.prog) u rfl Tryz.underlying23 30 (subC x av qv) (fun u hu => by have := Array.all_eq_true_iff_forall_mem.1 hall2 u (by simpa using hu); exact this))
        obtain ⟨ys, hys⟩ : ∃ ys, ys = outS (xs.take k) id := ⟨_, rfl⟩
        rw [← hys] at HOW HCC hcl hol ⊢
        have HYS := Lib.hid hys
        obtain ⟨Aa, ka, rfl, _, _⟩ := (RL.shape hra0)
        obtain ⟨Aq, kq, rfl, _, _⟩ := (RL.shape hrq0)
        clear he htk hall2 hown hcc hys hra0 hrq0
        obtain ⟨xid, name, topic, want, lease, most, floor, acks, queue, note⟩ := x
        simp only [subC] at HRG HSR HCS hc0 q2 HTK
        go_wp2_with (first
          | (refine wpList_load_midG (by rfl) 30 (.tmp 26) rfl b (off + k * 10) rfl _ _ HRG.out Tryz.underlying30 rfl size35 ?_)
          | (at_builtin; refine wpList_own rfl (.tmp 22) (.tmp 28) 23 23 rfl W0.heap.size 30 _ 10 144 Tryz.underlying23 infoSub rfl rfl (HOW.out.alloc _) rfl (HSR.out wr) (HBW.out.alloc HBW.out.size _) (Nat.le_refl _) ?_ ?_ ?_ ?_))
        · unfold maxLen; omega
        · omega
        · have := HBW.out.size; omega
        · intro v5 w5 hown5 hbel5 _
          have hos5 := OS.push hcl HCC.out HCS.out hown5
          obtain ⟨A5, c5, rfl, _⟩ := own_shape hown5
          have HO5 := Lib.hid hos5
          have HB5 := Lib.hid hbel5
          clear hown5 hbel5 hos5
          go_wp2
          go_roundw
          case rel => exact ⟨k + 1, by omega, by go_num, by rw [HTK.out, ← HYS.out]; exact HO5.out, HB5.out⟩
          case measure => simp [intOf]; omega
    · have q1 : ¬ (k : Int) < (xs.length : Int) := by omega
      have hend : outS (xs.take k) id = outS xs id := by rw [List.take_of_length_le (by omega)]
      have hrs := HOS.out
      have hln : (outS (xs.take k) id).length = (outS xs id).length := by rw [hend]
      rw [hend] at hrs ⊢
      obtain ⟨ys, hys⟩ : ∃ ys, ys = outS xs id := ⟨_, rfl⟩
      rw [← hys] at hrs ⊢
      have HYS := Lib.hid hys
      have HOSE := Lib.hid hrs
      have hsz := HSZ.out
      have hfr := HST2.out.frozen 3
      have hw1 := HST2.out.set1 3 (.slice A2 ys.length c2)
      have hw2 := HWH2.out.set1Other (k := w.heap.size) (by omega) 3 (.slice A2 ys.length c2)
      have hr1 := hw1.range
      simp only [List.set_cons_succ, List.set_cons_zero] at hr1
      have HR1 := Lib.hid hr1
      have HW2 := Lib.hid hw2
      clear hw1 hw2 hr1 hrs hys hend hln
      go_wp2_with (first
        | (refine wpList_load_midG (by rfl) 25 (.tmp 2) rfl w.heap.size 0 rfl _ _ HR1.out Tryz.underlying25 rfl size24 ?_)
        | (refine wpList_store_row rfl 25 (.tmp 4) (.tmp 32) rfl (w.heap.size + 1) #[.int .i64 c, .int .i64 n, .int .i64 l, .slice A2 ys.length c2] rfl rfl 25 O.toArray HW2.out size24 HOL.out (st_all c n l rfl) ?_))
      refine bodyPost_ret (results_cell_row rfl _ _ (w.heap.size + 1) 25 #[.int .i64 c, .int .i64 n, .int .i64 l, .slice A2 ys.length c2] (0, 0) _ rfl (HW2.out.set [.int .i64 c, .int .i64 n, .int .i64 l, .slice A2 ys.length c2]) Tryz.underlying25 rfl size24) rfl ?_
      rw [← HYS.out]
      have hbf := below_setRow ((HBT.out).setCell (p := ⟨w.heap.size, 3, none⟩) (Nat.le_refl _) (.slice A2 ys.length c2)) (show w.heap.size ≤ w.heap.size + 1 by omega) #[.int .i64 c, .int .i64 n, .int .i64 l, .slice A2 ys.length c2]
      have hosf := (HOSE.out.kept (grown_cell wr w.heap.size 3 (.slice A2 ys.length c2)) (by omega)).kept (grown_row _ (w.heap.size + 1) #[.int .i64 c, .int .i64 n, .int .i64 l, .slice A2 ys.length c2]) (by omega)
      exact ⟨_, rfl, hosf.rl, hbf⟩
end Go.Proofs.YtodckdkbheapfaaGreat
set_option linter.unusedVariables false
namespace Go.Ts
theorem insS_drop {x : Sub} {l : List Sub} {k : Nat} (hk : k < l.length) : insS x (l.drop k) = if x.id < l[k].id then x :: l[k] :: l.drop (k + 1) else l[k] :: insS x (l.drop (k + 1)) := by
  rw [List.drop_eq_getElem_cons hk, insS]
def PutI (x : Sub) (l : List Sub) (k : Nat) (laid : Bool) (acc : List Sub) : Prop := acc ++ (if laid = true then l.drop k else insS x (l.drop k)) = insS x l ∧ acc.length ≤ k + 1
theorem PutI.start (x : Sub) (l : List Sub) : PutI x l 0 false [] := ⟨by simp, by simp⟩
theorem PutI.both {x : Sub} {l : List Sub} {k : Nat} {acc : List Sub} (h : PutI x l k false acc) (hk : k < l.length) (hl : acc.length ≤ k) (hx : x.id < l[k].id) : PutI x l (k + 1) true (acc ++ [x] ++ [l[k]]) := by
  refine ⟨?_, by simp; omega⟩
  have := h.1
  rw [if_neg (by simp), insS_drop hk, if_pos hx] at this
  rw [if_pos rfl, ← this]
  simp
theorem PutI.one {x : Sub} {l : List Sub} {k : Nat} {acc : List Sub} (h : PutI x l k false acc) (hk : k < l.length) (hx : ¬ x.id < l[k].id) : PutI x l (k + 1) false (acc ++ [l[k]]) := by
  refine ⟨?_, by have := h.2; simp; omega⟩
  have := h.1
  rw [if_neg (by simp), insS_drop hk, if_neg hx] at this
  rw [if_neg (by simp), ← this]
  simp
theorem PutI.on {x : Sub} {l : List Sub} {k : Nat} {acc : List Sub} (h : PutI x l k true acc) (hk : k < l.length) : PutI x l (k + 1) true (acc ++ [l[k]]) := by
  refine ⟨?_, by have := h.2; simp; omega⟩
  have := h.1
  rw [if_pos rfl, List.drop_eq_getElem_cons hk] at this
  rw [if_pos rfl, ← this]
  simp
theorem PutI.end1 {x : Sub} {l : List Sub} {acc : List Sub} (h : PutI x l l.length true acc) : acc = insS x l := by
  have := h.1
  rw [if_pos rfl, List.drop_length, List.append_nil] at this
  exact this
theorem PutI.end2 {x : Sub} {l : List Sub} {acc : List Sub} (h : PutI x l l.length false acc) : acc ++ [x] = insS x l := by
  have := h.1
  rw [if_neg (by simp), List.drop_length] at this
  exact this
end Go.Ts
namespace Go.Proofs.YtodckdkbheapfaaGreat
open Go.RowKit Go.Rst Go.Tp Go.Ts
theorem OS.below {w : World} {base : Nat} {wr w2 : World} {v : Value} {ys : List Sub} (h : OS w base wr v ys) (hb : Below wr.heap.size wr w2) : OS w base w2 v ys := by
  obtain ⟨css, ho, hl, hc⟩ := h
  exact ⟨css, own_below ho hb, hl, hc⟩
structure PB (w wr : World) (T : Nat) (c n l : Int) (sv0 tv : Value) (xc O : List Value) : Prop where
  s : Wh wr w.heap.size (stC c n l sv0) 25
  x : Wh wr (w.heap.size + 1) xc 30
  o : Wh wr (w.heap.size + 1 + 1) O 25
  t : Wh wr T (stC c n l tv) 25
theorem PB.below {w wr w2 : World} {T : Nat} {c n l : Int} {sv0 tv : Value} {xc O : List Value} (h : PB w wr T c n l sv0 tv xc O) (hb : Below wr.heap.size wr w2) : PB w w2 T c n l sv0 tv xc O := ⟨h.s.below hb, h.x.below hb, h.o.below hb, h.t.below hb⟩
theorem PB.to {w wr w2 : World} {T B : Nat} {c n l : Int} {sv0 tv : Value} {xc O : List Value} (h : PB w wr T c n l sv0 tv xc O) (hb : Below B wr w2) (h1 : w.heap.size + 2 < B) (h2 : T < B) : PB w w2 T c n l sv0 tv xc O :=
  ⟨(hb.block _ (by omega)).trans h.s, (hb.block _ (by omega)).trans h.x, (hb.block _ (by omega)).trans h.o, (hb.block _ h2).trans h.t⟩
set_option maxRecDepth 100000 in
set_option maxHeartbeats 8000000 in
theorem put_any (c n l : Int) (v : Value) (xs : List Sub) (x : Sub) (av qv : Value) (w0 w : World) (h : RSo w0 w v xs) (ha : RI w0 av x.acks) (hq : RM w0 qv x.queue) (hxl : xs.length ≤ 977343669110) :
    Calls Tryz.prog 30 #[.agg (stC c n l v).toArray, .agg (subC x av qv).toArray] w (GivesSt w0 w c n l (putS xs x)) := by
  obtain ⟨A, ca, rfl, hac, ham⟩ := h.shape
  unfold maxLen at ham
  obtain ⟨Aa, ka, rfl, _, _⟩ := ha.shape
  obtain ⟨Aq, kq, rfl, _, _⟩ := hq.shape
  have hallx := sub_all x (rl_one ha) (rl_one hq)
  obtain ⟨O, hO⟩ : ∃ O : List Value, O = [.int .i64 0, .int .i64 0, .int .i64 0, .slice none 0 0] := ⟨_, rfl⟩
  obtain ⟨W0, hW0⟩ : ∃ W0, W0 = ((w.alloc (.cells (stC c n l (.slice A xs.length ca)).toArray 25)).alloc (.cells (subC x (.slice Aa x.acks.length ka) (.slice Aq x.queue.length kq)).toArray 30)).alloc (.cells O.toArray 25) := ⟨_, rfl⟩
  have hs0 : Wh W0 w.heap.size (stC c n l (.slice A xs.length ca)) 25 := by rw [hW0]; exact ((Wh.new w _ _).alloc _).alloc _
  have hx0 : Wh W0 (w.heap.size + 1) (subC x (.slice Aa x.acks.length ka) (.slice Aq x.queue.length kq)) 30 := by
    have := Wh.new (w.alloc (.cells (stC c n l (.slice A xs.length ca)).toArray 25)) (subC x (.slice Aa x.acks.length ka) (.slice Aq x.queue.length kq)) 30
    rw [World.size_alloc] at this
    rw [hW0]; exact this.alloc _
  have ho0 : Wh W0 (w.heap.size + 1 + 1) O 25 := by
    have := Wh.new ((w.alloc (.cells (stC c n l (.slice A xs.length ca)).toArray 25)).alloc (.cells (subC x (.slice Aa x.acks.length ka) (.slice Aq x.queue.length kq)).toArray 30)) O 25
    rw [World.size_alloc, World.size_alloc] at this
    rw [hW0]; exact this
  have hb0 : Below w.heap.size w W0 := by rw [hW0]; exact (((Below.refl _ w).alloc (Nat.le_refl _) _).alloc (by simp) _).alloc (by simp; omega) _
  have hz0 : W0.heap.size = w.heap.size + 3 := by rw [hW0]; simp
  have hwo := without_any c n l (.slice A xs.length ca) xs x.id w0 W0 (h.below (stays_so w0) hb0) hxl
  have HOL := Lib.hid (show O.toArray.size = 4 by rw [hO]; rfl)
  rw [hO] at hW0
  obtain ⟨xx, hxx⟩ : ∃ xx, xx = x := ⟨_, rfl⟩
  have HCX0 := Lib.hid (show CS w0 xx (subC x (.slice Aa x.acks.length ka) (.slice Aq x.queue.length kq)) by rw [hxx]; exact ⟨_, _, rfl, ha, hq⟩)
  have hput : putS xs x = insS xx (outS xs x.id) := by rw [hxx]; rfl
  rw [hput]
  have hol := outS_len xs x.id
  have hxid : x.id = xx.id := by rw [hxx]
  clear h ha hq hput
  obtain ⟨id, name, topic, want, lease, most, floor, acks, queue, note⟩ := x
  simp only [stC, subC] at hs0 hx0 ho0 hW0 hwo hallx HCX0 hol hxid ⊢
  have HXX := Lib.hid hxx
  have HXID := Lib.hid hxid
  clear hxx hO hxid
  obtain ⟨ys, hys⟩ : ∃ ys, ys = outS xs id := ⟨_, rfl⟩
  rw [← hys] at hwo hol ⊢
  clear hys
  have HS0 := Lib.hid hs0
  have HX0 := Lib.hid hx0
  have HO0 := Lib.hid ho0
  have HB0 := Lib.hid hb0
  have HZ0 := Lib.hid hz0
  have HWO := Lib.hid hwo
  have HAX := Lib.hid hallx
  have hld0 := hs0.range
  have HLD0 := Lib.hid hld0
  have cx0 := hx0.bx.cell (i := 0) (by simp)
  simp only [List.getElem_cons_zero] at cx0
  clear hs0 hx0 ho0 hb0 hz0 hwo hallx hld0
  go_enter Tryz.func30, Tryz.ntmps30
  go_wp2_with fail
  rw [← hW0]
  go_at_call 39
  refine HWO.out.mono ?_
  rintro e w1 ⟨tv, rfl, hrt, hb1⟩
  unfold stC
  obtain ⟨T, hT⟩ : ∃ T, T = w1.heap.size := ⟨_, rfl⟩
  obtain ⟨At, ct, rfl, hct, hctm⟩ := hrt.shape
  obtain ⟨W1, hW1⟩ : ∃ W1, W1 = w1.alloc (.cells #[.int .i64 c, .int .i64 n, .int .i64 l, .slice At ys.length ct] 25) := ⟨_, rfl⟩
  have hbb := hb1.trans ((Below.refl _ w1).alloc hb1.size (.cells #[.int .i64 c, .int .i64 n, .int .i64 l, .slice At ys.length ct] 25))
  rw [← hW1] at hbb
  have hpb : PB w W1 T c n l (.slice A xs.length ca) (.slice At ys.length ct) [.int .i64 id, sv name, sv topic, sv want, .int .i64 lease, .int .i64 most, .int .i64 floor, .slice Aa acks.length ka, .slice Aq queue.length kq, sv note] O :=
    ⟨HS0.out.below hbb, HX0.out.below hbb, HO0.out.below hbb, by rw [hT, hW1]; exact Wh.new w1 [.int .i64 c, .int .i64 n, .int .i64 l, .slice At ys.length ct] _⟩
  have hz1 : W1.heap.size = T + 1 := by rw [hW1, hT]; simp
  have hTw : w.heap.size + 3 ≤ T := by rw [hT, ← HZ0.out]; exact hb1.size
  have hbT : Below T w1 W1 := by rw [hT, hW1]; exact (Below.refl _ w1).alloc (Nat.le_refl _) _
  have hb01 := HB0.out.trans (hbb.mono HB0.out.size)
  have hcx1 : CS w0 xx [.int .i64 id, sv name, sv topic, sv want, .int .i64 lease, .int .i64 most, .int .i64 floor, .slice Aa acks.length ka, .slice Aq queue.length kq, sv note] := HCX0.out
  have HRT := Lib.hid hrt
  have HPB := Lib.hid hpb
  have HBT := Lib.hid hbT
  have HB01 := Lib.hid hb01
  have HCX := Lib.hid hcx1
  have HZ1 := Lib.hid hz1
  have HTE := Lib.hid hT
  have HSX := Lib.hid (fun (u : World) => src_cells (P := Tryz.prog) u rfl Tryz.underlying23 30 [.int .i64 id, sv name, sv topic, sv want, .int .i64 lease, .int .i64 most, .int .i64 floor, .slice Aa acks.length ka, .slice Aq queue.length kq, sv note] (fun u hu => by have := Array.all_eq_true_iff_forall_mem.1 HAX.out u (by simpa using hu); exact this))
  clear hb1 hbb hpb hb01 hcx1 hrt hbT hW0 cx0 hz1
  go_wp2_with fail
  rw [← hW1, ← hT]
  clear hW1 hT
  go_loopw [6, 7, 8] (fun lv la i wr => ∃ (k : Nat) (laid : Bool) (acc : List Sub), k ≤ ys.length ∧ i = .int .i64 k ∧ la = .bool laid ∧ PutI xx ys k laid acc ∧ (laid = false → acc.length ≤ k) ∧ OS w0 W1.heap.size wr lv acc ∧ Below W1.heap.size W1 wr) (fun _ _ i _ => ys.length - (intOf i).toNat)
  case atStart => exact ⟨0, false, [], Nat.zero_le _, rfl, rfl, PutI.start _ _, fun _ => by simp, OS.nil_ _ _ _, Below.refl _ _⟩
  case round =>
    obtain ⟨k, laid, acc, hk, rfl, rfl, hpi, hal, hos, hbel⟩ := hrel
    have hsh := hos.shape
    obtain ⟨A2, c2, rfl, hc2⟩ := hsh
    have HOS := Lib.hid hos
    have HPI := Lib.hid hpi
    have HAL := Lib.hid hal
    have HBW := Lib.hid hbel
    have hb1w := HBT.out.trans (hbel.mono (by have := HZ1.out; omega))
    have HB1W := Lib.hid hb1w
    have HBF := Lib.hid (HB01.out.trans (hbel.mono HB01.out.size))
    have hpw := HPB.out.below hbel
    have HPW := Lib.hid hpw
    have c3 := hpw.t.bx.cell (i := 3) (by simp [stC])
    have cx := hpw.x.bx.cell (i := 0) (by simp)
    simp only [stC, List.getElem_cons_succ, List.getElem_cons_zero] at c3 cx
    have hTl := hpw.t.lt
    have hxl2 := hpw.x.lt
    have hacl := hpi.2
    clear hos hpi hal hbel hb1w hpw
    by_cases hlt : k < ys.length
    · obtain ⟨b, off, av, qv, rfl, hb, hrg0, hra, hrq⟩ := rso_at HRT.out hlt
      have hrg := range_below hrg0 (by rw [HTE.out]; exact hb) HB1W.out
      have hrg1 := hrg0
      have hbTT : b < T := by rw [HTE.out]; exact hb
      have hbl : b < wr.heap.size := Nat.lt_of_lt_of_le hb HB1W.out.size
      have hc0 := hrg 0 (.int .i64 ys[k].id) rfl
      rw [Nat.add_zero] at hc0
      have HS1 := Lib.hid (fun h1 h2 h3 => @PutI.both xx ys k acc h1 hlt h2 h3)
      have HS2 := Lib.hid (fun h1 h3 => @PutI.one xx ys k acc h1 hlt h3)
      have HS3 := Lib.hid (fun h1 => @PutI.on xx ys k acc h1 hlt)
      obtain ⟨y, hy⟩ : ∃ y, y = ys[k] := ⟨_, rfl⟩
      rw [← hy] at hc0 hrg1 hra hrq HS1 HS2 HS3
      have hally := sub_all y (rl_one hra) (rl_one hrq)
      have q1 : (k : Int) < (ys.length : Int) := by omega
      obtain ⟨yy, hyy⟩ : ∃ yy, yy = y := ⟨_, rfl⟩
      have hcy : CS w0 yy (subC y av qv) := by rw [hyy]; exact ⟨av, qv, rfl, hra, hrq⟩
      obtain ⟨Ya, ya, rfl, _, _⟩ := (RL.shape hra)
      obtain ⟨Yq, yq, rfl, _, _⟩ := (RL.shape hrq)
      clear hy hrg0 hra hrq hb
      have hyid : y.id = yy.id := by rw [hyy]
      rw [← hyy] at HS1 HS2 HS3
      obtain ⟨yid, yname, ytopic, ywant, ylease, ymost, yfloor, yacks, yqueue, ynote⟩ := y
      simp only [subC] at hrg1 hcy hally hc0 hyid
      have HRG1 := Lib.hid hrg1
      have HCY := Lib.hid hcy
      have HYID := Lib.hid hyid
      have HSY := Lib.hid (fun (u : World) => src_cells (P := Tryz.prog) u rfl Tryz.underlying23 30 [.int .i64 yid, sv yname, sv ytopic, sv ywant, .int .i64 ylease, .int .i64 ymost, .int .i64 yfloor, .slice Ya yacks.length ya, .slice Yq yqueue.length yq, sv ynote] (fun u hu => by have := Array.all_eq_true_iff_forall_mem.1 hally u (by simpa using hu); exact this))
      clear hrg1 hrg hcy hally hyy hyid
      cases laid with
      | true =>
        go_wp2_with fail
        refine wp_region_held_drew (S := SB [wr]) (by kernel_rfl) (SB.start _) (fun hHeld => ?_)
        refine tkC 0 ?_
        refine tkC 1 ?_
        refine tkC 2 ?_
        refine tkB 3 ?_
        refine tkB 4 ?_
        refine tkB 5 ?_
        refine tkB 6 ?_
        refine tkB 7 ?_
        refine tkB 8 ?_
        refine tkB 9 ?_
        refine tkB 10 ?_
        refine tkB 11 ?_
        refine tkC 12 ?_
        refine wpAnyH_done (by kernel_rfl) ?_ _
        clear hHeld
        obtain ⟨wd, hwd⟩ : ∃ wd, wd = wr.drew := ⟨_, rfl⟩
        have hosd : OS w0 W1.heap.size wd (.slice A2 acc.length c2) acc := by rw [hwd]; exact HOS.out
        have hbwd : Below W1.heap.size W1 wd := by rw [hwd]; exact HBW.out.drew
        rw [← hwd]
        clear hwd c3 cx hc0 hTl hxl2 hbl
        have hpx := HPB.out.to hbwd (by have := HZ1.out; omega) (by have := HZ1.out; omega)
        have c3 := hpx.t.bx.cell (i := 3) (by simp [stC])
        simp only [stC, List.getElem_cons_succ, List.getElem_cons_zero] at c3
        have HPXd := Lib.hid hpx
        have HRGd := Lib.hid (range_below HRG1.out hbTT (HBT.out.trans (hbwd.mono (by have := HZ1.out; omega))))
        have HBXd := Lib.hid hbwd
        have HOXd := Lib.hid hosd
        clear hpx hbwd hosd
        obtain ⟨css, hown, hcl, hcc⟩ := HOXd.out
        have HOW := Lib.hid hown
        have HCC := Lib.hid hcc
        clear hown hcc
        go_wp2_with (first | (refine wpList_load_midG (by rfl) 30 (.tmp 41) rfl b (off + k * 10) rfl _ _ HRGd.out Tryz.underlying30 rfl size35 ?_) | (at_builtin; refine wpList_own rfl (.tmp 37) (.tmp 43) 23 23 rfl W1.heap.size 30 _ 10 144 Tryz.underlying23 infoSub rfl rfl (HOW.out.alloc _) rfl (HSY.out _) (HBXd.out.alloc HBXd.out.size _) (Nat.le_refl _) ?_ ?_ ?_ ?_))
        · unfold maxLen; omega
        · omega
        · have := HBXd.out.size; (first | omega | (simp; omega))
        · intro v5 w5 hown5 hbel5 _
          have hos5 := OS.push hcl HCC.out HCY.out hown5
          obtain ⟨A5, c5, rfl, _⟩ := own_shape hown5
          have HO5 := Lib.hid hos5
          have HB5 := Lib.hid hbel5
          clear hown5 hbel5 hos5
          go_wp2
          go_roundw
          case rel => exact ⟨k + 1, true, acc ++ [yy], by omega, by go_num, rfl, HS3.out HPI.out, fun h => (by cases h), by simpa using HO5.out, HB5.out⟩
          case measure => simp [intOf]; omega
      | false =>
        have hacl2 := HAL.out rfl
        by_cases hlt2 : id < yid
        · have hlt3 : xx.id < yy.id := by rw [← HXID.out, ← HYID.out]; exact hlt2
          have HLT3 := Lib.hid hlt3
          clear hlt3
          go_wp2_with fail
          refine wp_region_held_drew (S := SB [wr]) (by kernel_rfl) (SB.start _) (fun hHeld => ?_)
          refine tkC 0 ?_
          refine tkC 1 ?_
          refine tkC 2 ?_
          refine tkC 3 ?_
          refine tkA 4 (v := ?_) ?_ ?_
          rotate_left
          · intro W hSw; have hq := (SB.b0 hSw).cell (p := ⟨T, 3, none⟩) hTl |>.trans c3; go_simp; try (with_reducible rfl)
          try simp only [Act.put, zA, zB, zC]
          refine tkC 5 ?_
          refine tkC 6 ?_
          refine tkC 7 ?_
          refine tkA 8 (v := ?_) ?_ ?_
          rotate_left
          · intro W hSw; have hq := (SB.b0 hSw).cell (p := ⟨b, off + k * 10, none⟩) hbl |>.trans hc0; go_simp; try (with_reducible rfl)
          try simp only [Act.put, zA, zB, zC]
          refine tkC 9 ?_
          refine tkA 10 (v := ?_) ?_ ?_
          rotate_left
          · intro W hSw; have hq := (SB.b0 hSw).cell (p := ⟨w.heap.size + 1, 0, none⟩) hxl2 |>.trans cx; go_simp; try (with_reducible rfl)
          try simp only [Act.put, zA, zB, zC]
          refine tkC 11 ?_
          refine tkC 12 ?_
          refine wpAnyH_done (by kernel_rfl) ?_ _
          clear hHeld
          obtain ⟨wd, hwd⟩ : ∃ wd, wd = wr.drew := ⟨_, rfl⟩
          have hosd : OS w0 W1.heap.size wd (.slice A2 acc.length c2) acc := by rw [hwd]; exact HOS.out
          have hbwd : Below W1.heap.size W1 wd := by rw [hwd]; exact HBW.out.drew
          rw [← hwd]
          clear hwd c3 cx hc0 hTl hxl2 hbl
          have hpx := HPB.out.to hbwd (by have := HZ1.out; omega) (by have := HZ1.out; omega)
          have c3 := hpx.t.bx.cell (i := 3) (by simp [stC])
          simp only [stC, List.getElem_cons_succ, List.getElem_cons_zero] at c3
          have HPXd := Lib.hid hpx
          have HRGd := Lib.hid (range_below HRG1.out hbTT (HBT.out.trans (hbwd.mono (by have := HZ1.out; omega))))
          have HBXd := Lib.hid hbwd
          have HOXd := Lib.hid hosd
          clear hpx hbwd hosd
          have HXR := Lib.hid (HPXd.out.x).range
          obtain ⟨css, hown, hcl, hcc⟩ := HOXd.out
          have HOW := Lib.hid hown
          have HCC := Lib.hid hcc
          clear hown hcc
          go_wp2_with (first | (refine wpList_load_midG (by rfl) 30 (.tmp 3) rfl (w.heap.size + 1) 0 rfl _ _ HXR.out Tryz.underlying30 rfl size35 ?_) | (at_builtin; refine wpList_own rfl (.tmp 33) (.tmp 35) 23 23 rfl W1.heap.size 30 _ 10 144 Tryz.underlying23 infoSub rfl rfl (HOW.out.alloc _) rfl (HSX.out _) (HBXd.out.alloc HBXd.out.size _) (Nat.le_refl _) ?_ ?_ ?_ ?_))
          · unfold maxLen; omega
          · omega
          · have := HBXd.out.size; (first | omega | (simp; omega))
          · intro v5 w5 hown5 hbel5 _
            have hos5 := OS.push hcl HCC.out HCX.out hown5
            obtain ⟨A5, c5, rfl, _⟩ := own_shape hown5
            have hbel6 := hbel5
            have hlen : acc.length + 1 = (acc ++ [xx]).length := by simp
            rw [hlen] at hos5 ⊢
            clear hown5 c3 hlen
            have hpx := HPB.out.to hbel6 (by have := HZ1.out; omega) (by have := HZ1.out; omega)
            have c3 := hpx.t.bx.cell (i := 3) (by simp [stC])
            simp only [stC, List.getElem_cons_succ, List.getElem_cons_zero] at c3
            have HPXe := Lib.hid hpx
            have HRGe := Lib.hid (range_below HRG1.out hbTT (HBT.out.trans (hbel6.mono (by have := HZ1.out; omega))))
            have HBXe := Lib.hid hbel6
            have HOXe := Lib.hid hos5
            clear hpx hbel6 hos5
            clear hbel5 css hcl HCC HOW
            generalize hacc2 : acc ++ [xx] = acc2 at *
            have HACC2 := Lib.hid hacc2
            have hacc2l : acc2.length ≤ k + 1 := by rw [← hacc2]; simp; omega
            clear hacc2
            obtain ⟨css, hown, hcl, hcc⟩ := HOXe.out
            have HOW := Lib.hid hown
            have HCC := Lib.hid hcc
            clear hown hcc
            go_wp2_with (first | (refine wpList_load_midG (by rfl) 30 (.tmp 41) rfl b (off + k * 10) rfl _ _ HRGe.out Tryz.underlying30 rfl size35 ?_) | (at_builtin; refine wpList_own rfl (.tmp 37) (.tmp 43) 23 23 rfl W1.heap.size 30 _ 10 144 Tryz.underlying23 infoSub rfl rfl (HOW.out.alloc _) rfl (HSY.out _) (HBXe.out.alloc HBXe.out.size _) (Nat.le_refl _) ?_ ?_ ?_ ?_))
            · unfold maxLen; omega
            · omega
            · have := HBXe.out.size; (first | omega | (simp; omega))
            · intro v5 w5 hown5 hbel5 _
              have hos5 := OS.push hcl HCC.out HCY.out hown5
              obtain ⟨A5, c5, rfl, _⟩ := own_shape hown5
              have HO5 := Lib.hid hos5
              have HB5 := Lib.hid hbel5
              clear hown5 hbel5 hos5
              go_wp2
              go_roundw
              case rel => exact ⟨k + 1, true, acc2 ++ [yy], by omega, by go_num, rfl, HS1.out HPI.out hacl2 HLT3.out, fun h => (by cases h), by simpa using HO5.out, HB5.out⟩
              case measure => simp [intOf]; omega
        · have hlt3 : ¬ xx.id < yy.id := by rw [← HXID.out, ← HYID.out]; exact hlt2
          have HLT3 := Lib.hid hlt3
          clear hlt3
          go_wp2_with fail
          refine wp_region_held_drew (S := SB [wr]) (by kernel_rfl) (SB.start _) (fun hHeld => ?_)
          refine tkC 0 ?_
          refine tkC 1 ?_
          refine tkC 2 ?_
          refine tkC 3 ?_
          refine tkA 4 (v := ?_) ?_ ?_
          rotate_left
          · intro W hSw; have hq := (SB.b0 hSw).cell (p := ⟨T, 3, none⟩) hTl |>.trans c3; go_simp; try (with_reducible rfl)
          try simp only [Act.put, zA, zB, zC]
          refine tkC 5 ?_
          refine tkC 6 ?_
          refine tkC 7 ?_
          refine tkA 8 (v := ?_) ?_ ?_
          rotate_left
          · intro W hSw; have hq := (SB.b0 hSw).cell (p := ⟨b, off + k * 10, none⟩) hbl |>.trans hc0; go_simp; try (with_reducible rfl)
          try simp only [Act.put, zA, zB, zC]
          refine tkC 9 ?_
          refine tkA 10 (v := ?_) ?_ ?_
          rotate_left
          · intro W hSw; have hq := (SB.b0 hSw).cell (p := ⟨w.heap.size + 1, 0, none⟩) hxl2 |>.trans cx; go_simp; try (with_reducible rfl)
          try simp only [Act.put, zA, zB, zC]
          refine tkC 11 ?_
          refine tkC 12 ?_
          refine wpAnyH_done (by kernel_rfl) ?_ _
          clear hHeld
          obtain ⟨wd, hwd⟩ : ∃ wd, wd = wr.drew := ⟨_, rfl⟩
          have hosd : OS w0 W1.heap.size wd (.slice A2 acc.length c2) acc := by rw [hwd]; exact HOS.out
          have hbwd : Below W1.heap.size W1 wd := by rw [hwd]; exact HBW.out.drew
          rw [← hwd]
          clear hwd c3 cx hc0 hTl hxl2 hbl
          have hpx := HPB.out.to hbwd (by have := HZ1.out; omega) (by have := HZ1.out; omega)
          have c3 := hpx.t.bx.cell (i := 3) (by simp [stC])
          simp only [stC, List.getElem_cons_succ, List.getElem_cons_zero] at c3
          have HPXd := Lib.hid hpx
          have HRGd := Lib.hid (range_below HRG1.out hbTT (HBT.out.trans (hbwd.mono (by have := HZ1.out; omega))))
          have HBXd := Lib.hid hbwd
          have HOXd := Lib.hid hosd
          clear hpx hbwd hosd
          obtain ⟨css, hown, hcl, hcc⟩ := HOXd.out
          have HOW := Lib.hid hown
          have HCC := Lib.hid hcc
          clear hown hcc
          go_wp2_with (first | (refine wpList_load_midG (by rfl) 30 (.tmp 41) rfl b (off + k * 10) rfl _ _ HRGd.out Tryz.underlying30 rfl size35 ?_) | (at_builtin; refine wpList_own rfl (.tmp 37) (.tmp 43) 23 23 rfl W1.heap.size 30 _ 10 144 Tryz.underlying23 infoSub rfl rfl (HOW.out.alloc _) rfl (HSY.out _) (HBXd.out.alloc HBXd.out.size _) (Nat.le_refl _) ?_ ?_ ?_ ?_))
          · unfold maxLen; omega
          · omega
          · have := HBXd.out.size; (first | omega | (simp; omega))
          · intro v5 w5 hown5 hbel5 _
            have hos5 := OS.push hcl HCC.out HCY.out hown5
            obtain ⟨A5, c5, rfl, _⟩ := own_shape hown5
            have HO5 := Lib.hid hos5
            have HB5 := Lib.hid hbel5
            clear hown5 hbel5 hos5
            go_wp2
            go_roundw
            case rel => exact ⟨k + 1, false, acc ++ [yy], by omega, by go_num, rfl, HS2.out HPI.out HLT3.out, fun _ => (by simp; omega), by simpa using HO5.out, HB5.out⟩
            case measure => simp [intOf]; omega
    · obtain rfl : k = ys.length := by omega
      have q1 : ¬ (ys.length : Int) < (ys.length : Int) := by omega
      cases laid with
      | true =>
        have HEND := Lib.hid HPI.out.end1
        have HPXd := HPW
        have HBFd := HBF
        have hfr := HPXd.out.s.frozen 3
        have c3s := HPXd.out.s.bx.cell (i := 3) (by simp [stC])
        simp only [stC, List.getElem_cons_succ, List.getElem_cons_zero] at c3s
        have hw1 := HPXd.out.s.set1 3 (.slice A2 acc.length c2)
        have hw2 := HPXd.out.o.set1Other (k := w.heap.size) (by omega) 3 (.slice A2 acc.length c2)
        have hr1 := hw1.range
        simp only [stC, List.set_cons_succ, List.set_cons_zero] at hr1
        have HR1 := Lib.hid hr1
        have HW2 := Lib.hid hw2
        clear hw1 hw2 hr1
        go_wp2_with (first | (refine wpList_load_midG (by rfl) 25 (.tmp 2) rfl w.heap.size 0 rfl _ _ HR1.out Tryz.underlying25 rfl size24 ?_) | (refine wpList_store_row rfl 25 (.tmp 4) (.tmp 53) rfl (w.heap.size + 1 + 1) #[.int .i64 c, .int .i64 n, .int .i64 l, .slice A2 acc.length c2] rfl rfl 25 O.toArray HW2.out size24 HOL.out (st_all c n l rfl) ?_))
        refine bodyPost_ret (results_cell_row rfl _ _ (w.heap.size + 1 + 1) 25 #[.int .i64 c, .int .i64 n, .int .i64 l, .slice A2 acc.length c2] (0, 0) _ rfl (HW2.out.set [.int .i64 c, .int .i64 n, .int .i64 l, .slice A2 acc.length c2]) Tryz.underlying25 rfl size24) rfl ?_
        have hbf := below_setRow ((HBFd.out).setCell (p := ⟨w.heap.size, 3, none⟩) (Nat.le_refl _) (.slice A2 acc.length c2)) (show w.heap.size ≤ w.heap.size + 1 + 1 by omega) #[.int .i64 c, .int .i64 n, .int .i64 l, .slice A2 acc.length c2]
        have hosf := (HOS.out.kept (grown_cell _ w.heap.size 3 (.slice A2 acc.length c2)) (by have := HZ1.out; omega)).kept (grown_row _ (w.heap.size + 1 + 1) #[.int .i64 c, .int .i64 n, .int .i64 l, .slice A2 acc.length c2]) (by have := HZ1.out; omega)
        exact ⟨_, rfl, by rw [← HEND.out]; exact hosf.rl, hbf⟩
      | false =>
        have hend := HPI.out.end2
        have hacl2 := HAL.out rfl
        have HXR := Lib.hid (HPW.out.x).range
        obtain ⟨css, hown, hcl, hcc⟩ := HOS.out
        have HOW := Lib.hid hown
        have HCC := Lib.hid hcc
        clear hown hcc
        go_wp2_with (first | (refine wpList_load_midG (by rfl) 30 (.tmp 3) rfl (w.heap.size + 1) 0 rfl _ _ HXR.out Tryz.underlying30 rfl size35 ?_) | (at_builtin; refine wpList_own rfl (.tmp 47) (.tmp 49) 23 23 rfl W1.heap.size 30 _ 10 144 Tryz.underlying23 infoSub rfl rfl (HOW.out.alloc _) rfl (HSX.out _) (HBW.out.alloc HBW.out.size _) (Nat.le_refl _) ?_ ?_ ?_ ?_))
        · unfold maxLen; omega
        · omega
        · have := HBW.out.size; (first | omega | (simp; omega))
        · intro v5 w5 hown5 hbel5 _
          have hos5 := OS.push hcl HCC.out HCX.out hown5
          obtain ⟨A5, c5, rfl, _⟩ := own_shape hown5
          have hlen : acc.length + 1 = (acc ++ [xx]).length := by simp
          rw [hlen] at hos5 ⊢
          rw [hend] at hos5 ⊢
          obtain ⟨zs, hzs⟩ : ∃ zs, zs = insS xx ys := ⟨_, rfl⟩
          rw [← hzs] at hos5 hend ⊢
          have HEND := Lib.hid hend
          have HZS := Lib.hid hzs
          have hpx := HPB.out.to hbel5 (by have := HZ1.out; omega) (by have := HZ1.out; omega)
          have HPXe := Lib.hid hpx
          have HOX5 := Lib.hid hos5
          have HBFe := Lib.hid (HB01.out.trans (hbel5.mono HB01.out.size))
          clear hown5 hbel5 hos5 hpx hend hlen hzs c3 css hcl HCC HOW
          have hfr := HPXe.out.s.frozen 3
          have c3s := HPXe.out.s.bx.cell (i := 3) (by simp [stC])
          simp only [stC, List.getElem_cons_succ, List.getElem_cons_zero] at c3s
          have hw1 := HPXe.out.s.set1 3 (.slice A5 zs.length c5)
          have hw2 := HPXe.out.o.set1Other (k := w.heap.size) (by omega) 3 (.slice A5 zs.length c5)
          have hr1 := hw1.range
          simp only [stC, List.set_cons_succ, List.set_cons_zero] at hr1
          have HR1 := Lib.hid hr1
          have HW2 := Lib.hid hw2
          clear hw1 hw2 hr1
          go_wp2_with (first | (refine wpList_load_midG (by rfl) 25 (.tmp 2) rfl w.heap.size 0 rfl _ _ HR1.out Tryz.underlying25 rfl size24 ?_) | (refine wpList_store_row rfl 25 (.tmp 4) (.tmp 53) rfl (w.heap.size + 1 + 1) #[.int .i64 c, .int .i64 n, .int .i64 l, .slice A5 zs.length c5] rfl rfl 25 O.toArray HW2.out size24 HOL.out (st_all c n l rfl) ?_))
          refine bodyPost_ret (results_cell_row rfl _ _ (w.heap.size + 1 + 1) 25 #[.int .i64 c, .int .i64 n, .int .i64 l, .slice A5 zs.length c5] (0, 0) _ rfl (HW2.out.set [.int .i64 c, .int .i64 n, .int .i64 l, .slice A5 zs.length c5]) Tryz.underlying25 rfl size24) rfl ?_
          have hbf := below_setRow ((HBFe.out).setCell (p := ⟨w.heap.size, 3, none⟩) (Nat.le_refl _) (.slice A5 zs.length c5)) (show w.heap.size ≤ w.heap.size + 1 + 1 by omega) #[.int .i64 c, .int .i64 n, .int .i64 l, .slice A5 zs.length c5]
          have hosf := (HOX5.out.kept (grown_cell _ w.heap.size 3 (.slice A5 zs.length c5)) (by have := HZ1.out; omega)).kept (grown_row _ (w.heap.size + 1 + 1) #[.int .i64 c, .int .i64 n, .int .i64 l, .slice A5 zs.length c5]) (by have := HZ1.out; omega)
          exact ⟨_, rfl, by rw [← HZS.out]; exact hosf.rl, hbf⟩
end Go.Proofs.YtodckdkbheapfaaGreat
