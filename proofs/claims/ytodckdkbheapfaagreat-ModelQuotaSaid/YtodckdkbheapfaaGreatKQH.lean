/-
  Words for a row of subscriptions of the call's own (layer state). No program but the seat's types.; Words for slices of structs in blocks of a known kind, kept while rows of another kind grow (layer state). No program but the seat's types.; Words for what is settled, rows of ints of the call's own (layer state). No program but the seat's types.; The contracts of slices.Clone of numbers and of messages, and of the program's own (layer state).; Words for rows of messages of the call's own, and for rows beside each other (layer state). No program but the seat's types.
-/
import Derived.RangeFuncBox
import Derived.Test.YtodckdkbheapfaaGreatKQG
set_option linter.unusedVariables false
set_option linter.unusedVariables false
namespace Go.Proofs.YtodckdkbheapfaaGreat
open Go.RowKit Go.Rst Go.Tp Go.Ts
theorem infoSub : (Tryz.prog.info? 30).map (fun i => (i.zero, i.size, i.bytes)) = some (some (.agg #[.int .i64 0, .string .empty, .string .empty, .string .empty, .int .i64 0, .int .i64 0, .int .i64 0, .slice none 0 0, .slice none 0 0, .string .empty]), 10, 144) := by kernel_rfl
def OS (w : World) (base : Nat) (wr : World) (v : Value) (ys : List Sub) : Prop := ∃ css : List (List Value), wr.ownsRow base 30 10 v ys.length css.flatten ∧ css.length = ys.length ∧ ∀ j (h1 : j < ys.length) (h2 : j < css.length), CS w ys[j] css[j]
theorem cs_len {w : World} {x : Sub} {cs : List Value} (h : CS w x cs) : cs.length = 10 := by obtain ⟨av, qv, rfl, _⟩ := h; rfl
theorem OS.nil_ (w : World) (base : Nat) (wr : World) : OS w base wr (.slice none 0 0) [] := ⟨[], World.ownsRow_nil _ _ _ _, rfl, fun j h => by simp at h⟩
theorem OS.rl {w : World} {base : Nat} {wr : World} {v : Value} {ys : List Sub} (h : OS w base wr v ys) : RSo w wr v ys := by
  obtain ⟨css, ho, hl, hc⟩ := h
  refine RL.own ho hl (fun cs hcs => ?_) (fun j h1 h2 => hc j h1 h2)
  obtain ⟨j, hj, rfl⟩ := List.getElem_of_mem hcs
  exact cs_len (hc j (by omega) hj)
theorem OS.push {w : World} {base : Nat} {w2 : World} {v2 : Value} {ys : List Sub} {y : Sub} {cs : List Value} {css : List (List Value)} (hl : css.length = ys.length) (hc : ∀ j (h1 : j < ys.length) (h2 : j < css.length), CS w ys[j] css[j]) (hy : CS w y cs)
    (ho : w2.ownsRow base 30 10 v2 (ys.length + 1) (css.flatten ++ cs)) : OS w base w2 v2 (ys ++ [y]) := by
  refine ⟨css ++ [cs], by rw [List.length_append, List.flatten_append]; simpa using ho, by simp [hl], fun j h1 h2 => ?_⟩
  by_cases hj : j < ys.length
  · rw [List.getElem_append_left hj, List.getElem_append_left (by omega)]; exact hc j hj (by omega)
  · have e : j = ys.length := by simp at h1; omega
    subst e
    rw [List.getElem_append_right (Nat.le_refl _), List.getElem_append_right (by omega)]
    simp only [hl, Nat.sub_self, List.getElem_cons_zero]
    exact hy
theorem OS.shape {w : World} {base : Nat} {wr : World} {v : Value} {ys : List Sub} (h : OS w base wr v ys) : ∃ A c, v = .slice A ys.length c ∧ ys.length ≤ c := by
  obtain ⟨css, ho, _⟩ := h; exact own_shape ho
theorem grown_cell (W : World) (b i : Nat) (v : Value) : W.grownBy (W.setCell ⟨b, i, none⟩ v) (some b) :=
  ⟨rfl, rfl, rfl, (KeepsWalks.setCell W _ v).size, fun k _ hk => Below.heap_setCell _ _ _ k (fun e => hk (by rw [e]))⟩
theorem grown_row (W : World) (b : Nat) (cs : Array Value) : W.grownBy (W.setRow b cs) (some b) :=
  ⟨rfl, rfl, rfl, by simp, fun k _ hk => setRow_other W b k cs (fun e => hk (by rw [e]))⟩
theorem OS.kept {w : World} {base : Nat} {wr w2 : World} {v : Value} {ys : List Sub} {g : Nat} (h : OS w base wr v ys) (hg : wr.grownBy w2 (some g)) (hb : g < base) : OS w base w2 v ys := by
  obtain ⟨css, ho, hl, hc⟩ := h
  refine ⟨css, ho.kept hg ?_, hl, hc⟩
  rcases ho.2 with ⟨rfl, _⟩ | ⟨k, cap, cur, rfl, hk, _⟩
  · exact .inl rfl
  · refine .inr fun e => ?_
    have : g = k := by simpa [Value.ownBlock] using e.symm
    omega
end Go.Proofs.YtodckdkbheapfaaGreat
set_option linter.unusedVariables false
namespace Go.Ts
open Go Go.RowKit Go.Rst Go.Tp
section
variable {α : Type} {sz : Nat} {C : World → α → List Value → Prop}
def RLt (t : TypeId) (sz : Nat) (C : World → α → List Value → Prop) (w : World) (v : Value) (xs : List α) : Prop :=
  RL sz C w v xs ∧ (xs = [] ∨ ∃ b off c cur, v = .slice (some ⟨b, off, none⟩) xs.length c ∧ w.heap[b]? = some (.cells cur t (0, 0)))
def Fixed (C : World → α → List Value → Prop) : Prop := ∀ w w' x cs, C w x cs → C w' x cs
theorem cells_block {w w' : World} {b off : Nat} {cs : List Value} (h : CellsAt w b off cs) (hb : w'.heap[b]? = w.heap[b]?) : CellsAt w' b off cs := fun i hi => by
  rw [← h i hi]
  simp only [World.cell?, hb]
theorem RLt.grown (hC : Fixed C) {t : TypeId} {w w' : World} {v : Value} {xs : List α} {row : Option Nat} (h : RLt t sz C w v xs) (hg : w.grownBy w' row) (hne : ∀ g, row = some g → ∃ cur t', w.heap[g]? = some (.cells cur t' (0, 0)) ∧ t' ≠ t) : RLt t sz C w' v xs := by
  obtain ⟨⟨A, c, h1, h2, h3, h4⟩, h5⟩ := h
  rcases h5 with h5 | ⟨b, off, c2, cur, h6, h7⟩
  · subst h5
    exact ⟨⟨A, c, h1, h2, h3, .inl rfl⟩, .inl rfl⟩
  · have hbn : some b ≠ row := by
      intro e
      obtain ⟨cur', t', h8, h9⟩ := hne b e.symm
      rw [h7] at h8
      injection h8 with h8
      injection h8 with _ h8 _
      exact h9 h8.symm
    have hb := (Array.getElem?_eq_some_iff.1 h7).1
    have hk := hg.block b hb hbn
    refine ⟨⟨A, c, h1, h2, h3, ?_⟩, .inr ⟨b, off, c2, cur, h6, hk.trans h7⟩⟩
    rcases h4 with h4 | ⟨b2, off2, h9, h10, h11⟩
    · exact .inl h4
    · rw [h6] at h1
      injection h1 with e1 _ _
      rw [h9] at e1
      injection e1 with e1
      injection e1 with e1 e2 _
      subst e1
      refine .inr ⟨b, off2, h9, Nat.lt_of_lt_of_le h10 hg.size, fun j hj => ?_⟩
      obtain ⟨cs, h12, h13⟩ := h11 j hj
      exact ⟨cs, hC _ _ _ _ h12, cells_block h13 hk⟩
theorem RLt.below (hC : Fixed C) {t : TypeId} {w w' : World} {v : Value} {xs : List α} (h : RLt t sz C w v xs) (hb : Below w.heap.size w w') : RLt t sz C w' v xs :=
  h.grown hC (row := none) ⟨hb.os, hb.tape, hb.output, hb.size, fun k hk _ => hb.block k hk⟩ (fun g e => by cases e)
theorem RLt.rl {t : TypeId} {w : World} {v : Value} {xs : List α} (h : RLt t sz C w v xs) : RL sz C w v xs := h.1
theorem RLt.nil_ (t : TypeId) (w : World) (A : Option Addr) (c : Nat) (hc : c ≤ maxLen) : RLt t sz C w (.slice A 0 c) [] := ⟨RL.nil_ w A c hc, .inl rfl⟩
theorem RLt.own {w : World} {base : Nat} {e : TypeId} {v : Value} {xs : List α} {css : List (List Value)} (h : w.ownsRow base e sz v xs.length css.flatten) (hl : css.length = xs.length) (hsz : ∀ cs ∈ css, cs.length = sz)
    (hC : ∀ j (h1 : j < xs.length) (h2 : j < css.length), C w xs[j] css[j]) : RLt e sz C w v xs := by
  refine ⟨RL.own h hl hsz hC, ?_⟩
  rcases h.2 with ⟨rfl, h0⟩ | ⟨g, cap, cur, rfl, hb, hg, hle, hcap, hcs, htk⟩
  · exact .inl (List.eq_nil_of_length_eq_zero h0)
  · exact .inr ⟨g, 0, cap, cur, rfl, hg⟩
end
theorem fixed_ci : Fixed CI := fun _ _ _ _ h => h
theorem fixed_cm : Fixed CM := fun _ _ _ _ h => h
end Go.Ts
namespace Go.Proofs.YtodckdkbheapfaaGreat
open Go.RowKit Go.Rst Go.Tp Go.Ts
def CN (w : World) (x : Sub) (cs : List Value) : Prop := ∃ av qv, cs = subC x av qv ∧ RLt 3 1 CI w av x.acks ∧ RLt 45 8 CM w qv x.queue
theorem CN.cs {w : World} {x : Sub} {cs : List Value} (h : CN w x cs) : CS w x cs := let ⟨av, qv, h1, h2, h3⟩ := h; ⟨av, qv, h1, h2.rl, h3.rl⟩
theorem CN.grown {w w' : World} {x : Sub} {cs : List Value} {row : Option Nat} (h : CN w x cs) (hg : w.grownBy w' row) (hne : ∀ g, row = some g → ∃ cur, w.heap[g]? = some (.cells cur 30 (0, 0))) : CN w' x cs := by
  obtain ⟨av, qv, h1, h2, h3⟩ := h
  exact ⟨av, qv, h1, h2.grown fixed_ci hg (fun g e => let ⟨cur, hc⟩ := hne g e; ⟨cur, _, hc, by decide⟩), h3.grown fixed_cm hg (fun g e => let ⟨cur, hc⟩ := hne g e; ⟨cur, _, hc, by decide⟩)⟩
theorem CN.below {w w' : World} {x : Sub} {cs : List Value} (h : CN w x cs) (hb : Below w.heap.size w w') : CN w' x cs := by
  obtain ⟨av, qv, h1, h2, h3⟩ := h
  exact ⟨av, qv, h1, h2.below fixed_ci hb, h3.below fixed_cm hb⟩
def ON (base : Nat) (wr : World) (v : Value) (ys : List Sub) : Prop := ∃ css : List (List Value), wr.ownsRow base 30 10 v ys.length css.flatten ∧ css.length = ys.length ∧ ∀ j (h1 : j < ys.length) (h2 : j < css.length), CN wr ys[j] css[j]
theorem ON.nil_ (base : Nat) (wr : World) : ON base wr (.slice none 0 0) [] := ⟨[], World.ownsRow_nil _ _ _ _, rfl, fun j h => by simp at h⟩
theorem ON.rs {base : Nat} {wr : World} {v : Value} {ys : List Sub} (h : ON base wr v ys) : RS wr v ys := by
  obtain ⟨css, ho, hl, hc⟩ := h
  refine RL.own ho hl (fun cs hcs => ?_) (fun j h1 h2 => (hc j h1 h2).cs)
  obtain ⟨j, hj, rfl⟩ := List.getElem_of_mem hcs
  exact cs_len (hc j (by omega) hj).cs
theorem ON.shape {base : Nat} {wr : World} {v : Value} {ys : List Sub} (h : ON base wr v ys) : ∃ A c, v = .slice A ys.length c ∧ ys.length ≤ c := by
  obtain ⟨css, ho, _⟩ := h; exact own_shape ho
theorem row_kind {w : World} {base : Nat} {e : TypeId} {sz : Nat} {v : Value} {n : Nat} {xs : List Value} (h : w.ownsRow base e sz v n xs) : ∀ g, v.ownBlock = some g → ∃ cur, w.heap[g]? = some (.cells cur e (0, 0)) := by
  intro g hg
  rcases h.2 with ⟨rfl, h0⟩ | ⟨k, cap, cur, rfl, hb, hk, _⟩
  · cases hg
  · have : k = g := by simpa [Value.ownBlock] using hg
    subst this
    exact ⟨cur, hk⟩
theorem ON.push {base : Nat} {wr w2 : World} {v v2 : Value} {ys : List Sub} {y : Sub} {cs : List Value} {css : List (List Value)} (ho0 : wr.ownsRow base 30 10 v ys.length css.flatten) (hl : css.length = ys.length)
    (hc : ∀ j (h1 : j < ys.length) (h2 : j < css.length), CN wr ys[j] css[j]) (hy : CN wr y cs)
    (ho : w2.ownsRow base 30 10 v2 (ys.length + 1) (css.flatten ++ cs)) (hg : wr.grownBy w2 v.ownBlock) : ON base w2 v2 (ys ++ [y]) := by
  have hk := row_kind ho0
  refine ⟨css ++ [cs], by rw [List.length_append, List.flatten_append]; simpa using ho, by simp [hl], fun j h1 h2 => ?_⟩
  by_cases hj : j < ys.length
  · rw [List.getElem_append_left hj, List.getElem_append_left (by omega)]; exact (hc j hj (by omega)).grown hg hk
  · have e : j = ys.length := by simp at h1; omega
    subst e
    rw [List.getElem_append_right (Nat.le_refl _), List.getElem_append_right (by omega)]
    simp only [hl, Nat.sub_self, List.getElem_cons_zero]
    exact hy.grown hg hk
theorem ON.below {base : Nat} {wr w2 : World} {v : Value} {ys : List Sub} (h : ON base wr v ys) (hb : Below wr.heap.size wr w2) : ON base w2 v ys := by
  obtain ⟨css, ho, hl, hc⟩ := h
  exact ⟨css, own_below ho hb, hl, fun j h1 h2 => (hc j h1 h2).below hb⟩
theorem ON.kept {base : Nat} {wr w2 : World} {v : Value} {ys : List Sub} {g : Nat} (h : ON base wr v ys) (hg : wr.grownBy w2 (some g)) (hb : g < base) (hk : ∃ cur t', wr.heap[g]? = some (.cells cur t' (0, 0)) ∧ t' ≠ 3 ∧ t' ≠ 45) : ON base w2 v ys := by
  obtain ⟨css, ho, hl, hc⟩ := h
  refine ⟨css, ho.kept hg ?_, hl, fun j h1 h2 => ?_⟩
  · rcases ho.2 with ⟨rfl, _⟩ | ⟨k, cap, cur, rfl, hk, _⟩
    · exact .inl rfl
    · refine .inr fun e => ?_
      have : g = k := by simpa [Value.ownBlock] using e.symm
      omega
  · obtain ⟨av, qv, h1, h2, h3⟩ := hc j h1 h2
    obtain ⟨cur, t', hk1, hk2, hk3⟩ := hk
    exact ⟨av, qv, h1, h2.grown fixed_ci hg (fun g' e => by cases e; exact ⟨cur, t', hk1, hk2⟩), h3.grown fixed_cm hg (fun g' e => by cases e; exact ⟨cur, t', hk1, hk3⟩)⟩
end Go.Proofs.YtodckdkbheapfaaGreat
set_option linter.unusedVariables false
namespace Go.Ts
def upL (F : Int) (l : List Int) : List Int := l.filter fun n => decide (F < n)
theorem upL_take {F : Int} {l : List Int} {k : Nat} (hk : k < l.length) : upL F (l.take (k + 1)) = upL F (l.take k) ++ (if F < l[k] then [l[k]] else []) := by
  unfold upL
  rw [List.take_succ_eq_append_getElem hk, List.filter_append]
  congr 1
  by_cases h : F < l[k]
  · rw [if_pos h]; simp [h]
  · rw [if_neg h]; simp [h]
end Go.Ts
namespace Go.Proofs.YtodckdkbheapfaaGreat
open Go.RowKit Go.Rst Go.Tp Go.Ts
theorem infoNum : (Tryz.prog.info? 3).map (fun i => (i.zero, i.size, i.bytes)) = some (some (.int .i64 0), 1, 8) := by kernel_rfl
def iv (n : Int) : Value := .int .i64 n
def OI (base : Nat) (wr : World) (v : Value) (ys : List Int) : Prop := wr.ownsRow base 3 1 v ys.length (ys.map iv)
theorem OI.nil_ (base : Nat) (wr : World) : OI base wr (.slice none 0 0) [] := World.ownsRow_nil _ _ _ _
theorem OI.rl {base : Nat} {wr : World} {v : Value} {ys : List Int} (h : OI base wr v ys) : RI wr v ys := by
  have e : (ys.map fun n => [iv n]).flatten = ys.map iv := by
    induction ys with
    | nil => rfl
    | cons a l ih =>
      have : ∀ l : List Int, (l.map fun n => [iv n]).flatten = l.map iv := fun l => by induction l with
        | nil => rfl
        | cons a l ih => simp [ih]
      exact this _
  unfold OI at h
  rw [← e] at h
  refine RL.own h (by simp) (fun cs hcs => ?_) (fun j h1 h2 => ?_)
  · obtain ⟨n, _, rfl⟩ := List.mem_map.1 hcs; rfl
  · rw [List.getElem_map]; rfl
theorem OI.kept {base : Nat} {wr w2 : World} {v : Value} {ys : List Int} {g : Nat} (h : OI base wr v ys) (hg : wr.grownBy w2 (some g)) (hb : g < base) : OI base w2 v ys := by
  refine World.ownsRow.kept h hg ?_
  rcases h.2 with ⟨rfl, _⟩ | ⟨k, cap, cur, rfl, hk, _⟩
  · exact .inl rfl
  · refine .inr fun e => ?_
    have : g = k := by simpa [Value.ownBlock] using e.symm
    omega
def GivesSub (w : World) (x : Sub) (e : Ending) (w' : World) : Prop := ∃ av qv, e = .returned (.agg (subC x av qv).toArray) ∧ RI w' av x.acks ∧ RM w' qv x.queue ∧ Below w.heap.size w w'
end Go.Proofs.YtodckdkbheapfaaGreat
set_option linter.unusedVariables false
namespace Go.Ts
open Go Go.RowKit Go.Rst Go.Tp
def Sized (x : Sub) : Prop := x.acks.length ≤ 17592186043904 ∧ x.queue.length ≤ 1599289640354
theorem Sized.few {x : Sub} (h1 : x.acks.length ≤ 1000000) (h2 : x.queue.length ≤ 1000000) : Sized x := ⟨by omega, by omega⟩
theorem src_rl {α : Type} {sz : Nat} {f : α → List Value} (hlen : ∀ x, (f x).length = sz) (hone : ∀ x, ∀ u ∈ f x, u.oneCell' = true) {P : Program} {w : World} {v : Value} {xs : List α} (h : RL sz (fun _ x cs => cs = f x) w v xs) {tx e : TypeId} (hk : P.underlying tx = some (.slice e)) :
    Src P sz tx v xs.length (xs.map f).flatten w := by
  obtain ⟨A, c, rfl, h2, h3, h4⟩ := h
  have hfl : (xs.map f).flatten.length = xs.length * sz := by
    rw [flatten_len _ (fun cs hcs => by obtain ⟨x, _, rfl⟩ := List.mem_map.1 hcs; exact hlen x), List.length_map]
  have hall : ∀ u ∈ (xs.map f).flatten, u.oneCell' = true := fun u hu => by
    obtain ⟨cs, hcs, hu⟩ := List.mem_flatten.1 hu
    obtain ⟨x, _, rfl⟩ := List.mem_map.1 hcs
    exact hone x u hu
  rcases h4 with h4 | ⟨b, off, rfl, hb, hj⟩
  · subst h4
    cases A with
    | none => exact Src.ofNil _ hk c
    | some a => exact Src.ofSlice _ hk a 0 c [] (by simp) (fun j x hj => by simp at hj) (fun u hu => by cases hu)
  · refine Src.ofSlice _ hk ⟨b, off, none⟩ _ c _ hfl (fun j x hx => ?_) hall
    rw [Addr.add_lit]
    have hlt := (List.getElem?_eq_some_iff.1 hx).1
    rw [hfl] at hlt
    have hsz : 0 < sz := by
      rcases Nat.eq_zero_or_pos sz with h0 | h0
      · rw [h0] at hlt; omega
      · exact h0
    have hq : j / sz < xs.length := by rw [Nat.div_lt_iff_lt_mul hsz]; exact hlt
    have hr := Nat.mod_lt j hsz
    obtain ⟨cs, hcs, hcell⟩ := hj (j / sz) hq
    have hg := flatten_get (sz := sz) (xs.map f) (fun cs hcs => by obtain ⟨x, _, rfl⟩ := List.mem_map.1 hcs; exact hlen x) (j / sz) (by simpa using hq) (j % sz) (by rw [List.getElem_map, hlen]; exact hr)
    have hjj : j / sz * sz + j % sz = j := by rw [Nat.mul_comm]; exact Nat.div_add_mod j sz
    rw [hjj, hx] at hg
    injection hg with hg
    have hc := hcell (j % sz) (by rw [hcs, hlen]; exact hr)
    rw [show off + j = off + j / sz * sz + j % sz by omega, hc, hg]
    subst hcs
    simp [List.getElem_map]
theorem src_ints {P : Program} {w : World} {v : Value} {xs : List Int} (h : RI w v xs) {tx e : TypeId} (hk : P.underlying tx = some (.slice e)) : Src P 1 tx v xs.length (xs.map fun n => [Value.int .i64 n]).flatten w :=
  src_rl (f := fun n => [Value.int .i64 n]) (fun _ => rfl) (fun x u hu => by rw [List.mem_singleton.1 hu]; rfl) h hk
theorem msg_one (m : Msg) : ∀ u ∈ msgC m, u.oneCell' = true := by
  intro u hu
  simp only [msgC, List.mem_cons, List.not_mem_nil, or_false] at hu
  rcases hu with rfl | rfl | rfl | rfl | rfl | rfl | rfl | rfl <;> rfl
theorem src_msgs {P : Program} {w : World} {v : Value} {xs : List Msg} (h : RM w v xs) {tx e : TypeId} (hk : P.underlying tx = some (.slice e)) : Src P 8 tx v xs.length (xs.map msgC).flatten w :=
  src_rl (f := msgC) (fun _ => rfl) msg_one h hk
theorem rlt_ints {w : World} {base : Nat} {e : TypeId} {v : Value} {xs : List Int} (h : w.ownsRow base e 1 v xs.length (xs.map fun n => [Value.int .i64 n]).flatten) : RLt e 1 CI w v xs := by
  refine RLt.own h (by simp) (fun cs hcs => ?_) (fun j h1 h2 => ?_)
  · obtain ⟨n, _, rfl⟩ := List.mem_map.1 hcs; rfl
  · rw [List.getElem_map]; rfl
theorem rlt_msgs {w : World} {base : Nat} {e : TypeId} {v : Value} {xs : List Msg} (h : w.ownsRow base e 8 v xs.length (xs.map msgC).flatten) : RLt e 8 CM w v xs := by
  refine RLt.own h (by simp) (fun cs hcs => ?_) (fun j h1 h2 => ?_)
  · obtain ⟨n, _, rfl⟩ := List.mem_map.1 hcs; rfl
  · rw [List.getElem_map]; rfl
end Go.Ts
namespace Go.Proofs.YtodckdkbheapfaaGreat
open Go.RowKit Go.Rst Go.Tp Go.Ts
theorem eql_nilS (w : World) (t e : TypeId) (a : Option Addr) (l c : Nat) (h : Tryz.prog.underlying t = some (.slice e)) : (binOp .eql t (.slice a l c) (.slice none 0 0)).run Tryz.prog w = .ok (.bool a.isNone) w := by
  have := run_equal_slice_nil (P := Tryz.prog) w t e a l c h
  simp [binOp, this]
theorem own_emptyS (w : World) (e : TypeId) (size : Nat) : (w.alloc (Obj.cells #[] e)).ownsRow w.heap.size e size (.slice (some ⟨w.heap.size, 0, none⟩) 0 0) 0 [] :=
  ⟨by simp, .inr ⟨w.heap.size, 0, #[], rfl, Nat.le_refl _, heap_alloc_new w _, Nat.le_refl _, Nat.zero_le _, by simp, by simp⟩⟩
theorem infoMsg : (Tryz.prog.info? 45).map (fun i => (i.zero, i.size, i.bytes)) = some (some (.agg #[.int .i64 0, .string .empty, .string .empty, .int .i64 0, .int .i64 0, .bool false, .string .empty, .int .i64 0]), 8, 88) := by kernel_rfl
set_option maxRecDepth 100000 in
set_option maxHeartbeats 1000000 in
theorem cloneI_any (v : Value) (xs : List Int) (w : World) (h : RI w v xs) (hl : xs.length * 8 ≤ 140737488355328) :
    Calls Tryz.prog 42 #[v] w fun e w' => ∃ u, e = .returned u ∧ RLt 3 1 CI w' u xs ∧ Below w.heap.size w w' := by
  have HS := Lib.hid (src_ints (P := Tryz.prog) (h.below stays_ci ((Below.refl w.heap.size w).alloc (Nat.le_refl _) (Obj.cells #[] 3))) Tryz.underlying27)
  have HLM := Lib.hid (show 0 + xs.length ≤ maxLen by unfold maxLen; omega)
  have HLB := Lib.hid (show (0 + xs.length) * 8 ≤ 140737488355328 by omega)
  have HO := Lib.hid (own_emptyS w 3 1)
  obtain ⟨A, c, rfl, _, _, h3⟩ := h
  cases A with
  | none =>
    have hl0 : xs = [] := by
      rcases h3 with h3 | ⟨b, off, h4, _⟩
      · exact h3
      · cases h4
    subst hl0
    have e1 : (binOp .eql 27 (.slice none 0 c) (.slice none 0 0)).run Tryz.prog w = .ok (.bool true) w := eql_nilS w 27 3 none 0 c Tryz.underlying27
    rw [List.length_nil]
    clear h3
    go_enter Tryz.func42, Tryz.ntmps42
    go_wp2
    go_ret
    exact ⟨_, rfl, RLt.nil_ _ _ _ _ (by decide), Below.refl _ _⟩
  | some a =>
    have e1 : (binOp .eql 27 (.slice (some a) xs.length c) (.slice none 0 0)).run Tryz.prog w = .ok (.bool false) w := eql_nilS w 27 3 (some a) xs.length c Tryz.underlying27
    clear h3
    go_enter Tryz.func42, Tryz.ntmps42
    go_wp2_with (at_builtin; refine wpList_own rfl (.tmp 5) (.tmp 6) 27 27 rfl w.heap.size 3 (.int .i64 0) 1 8 Tryz.underlying27 infoNum rfl rfl HO.out rfl HS.out ((Below.refl w.heap.size w).alloc (Nat.le_refl _) _) (Nat.le_refl _) HLM.out HLB.out (by simp) ?_)
    intro v5 w5 hown5 hbel5 _
    have HO5 := Lib.hid hown5
    have HB5 := Lib.hid hbel5
    obtain ⟨A5, c5, rfl, _⟩ := own_shape hown5
    clear hown5 hbel5
    go_wp2
    go_ret
    exact ⟨_, rfl, rlt_ints HO5.out, HB5.out⟩
set_option maxRecDepth 100000 in
set_option maxHeartbeats 1000000 in
theorem cloneM_any (v : Value) (xs : List Msg) (w : World) (h : RM w v xs) (hl : xs.length * 88 ≤ 140737488355328) :
    Calls Tryz.prog 43 #[v] w fun e w' => ∃ u, e = .returned u ∧ RLt 45 8 CM w' u xs ∧ Below w.heap.size w w' := by
  have HS := Lib.hid (src_msgs (P := Tryz.prog) (h.below stays_cm ((Below.refl w.heap.size w).alloc (Nat.le_refl _) (Obj.cells #[] 45))) Tryz.underlying28)
  have HLM := Lib.hid (show 0 + xs.length ≤ maxLen by unfold maxLen; omega)
  have HLB := Lib.hid (show (0 + xs.length) * 88 ≤ 140737488355328 by omega)
  have HO := Lib.hid (own_emptyS w 45 8)
  obtain ⟨A, c, rfl, _, _, h3⟩ := h
  cases A with
  | none =>
    have hl0 : xs = [] := by
      rcases h3 with h3 | ⟨b, off, h4, _⟩
      · exact h3
      · cases h4
    subst hl0
    have e1 : (binOp .eql 28 (.slice none 0 c) (.slice none 0 0)).run Tryz.prog w = .ok (.bool true) w := eql_nilS w 28 45 none 0 c Tryz.underlying28
    rw [List.length_nil]
    clear h3
    go_enter Tryz.func43, Tryz.ntmps43
    go_wp2
    go_ret
    exact ⟨_, rfl, RLt.nil_ _ _ _ _ (by decide), Below.refl _ _⟩
  | some a =>
    have e1 : (binOp .eql 28 (.slice (some a) xs.length c) (.slice none 0 0)).run Tryz.prog w = .ok (.bool false) w := eql_nilS w 28 45 (some a) xs.length c Tryz.underlying28
    clear h3
    go_enter Tryz.func43, Tryz.ntmps43
    go_wp2_with (at_builtin; refine wpList_own rfl (.tmp 5) (.tmp 6) 28 28 rfl w.heap.size 45 (.agg #[.int .i64 0, .string .empty, .string .empty, .int .i64 0, .int .i64 0, .bool false, .string .empty, .int .i64 0]) 8 88 Tryz.underlying28 infoMsg rfl rfl HO.out rfl HS.out ((Below.refl w.heap.size w).alloc (Nat.le_refl _) _) (Nat.le_refl _) HLM.out HLB.out (by simp) ?_)
    intro v5 w5 hown5 hbel5 _
    have HO5 := Lib.hid hown5
    have HB5 := Lib.hid hbel5
    obtain ⟨A5, c5, rfl, _⟩ := own_shape hown5
    clear hown5 hbel5
    go_wp2
    go_ret
    exact ⟨_, rfl, rlt_msgs HO5.out, HB5.out⟩
def GivesOwn (w : World) (x : Sub) (e : Ending) (w' : World) : Prop := ∃ cs, e = .returned (.agg cs.toArray) ∧ CN w' x cs ∧ Below w.heap.size w w'
set_option maxRecDepth 100000 in
set_option maxHeartbeats 4000000 in
theorem own_any (x : Sub) (av qv : Value) (w : World) (ha : RI w av x.acks) (hq : RM w qv x.queue) (hz : Sized x) :
    Calls Tryz.prog 103 #[.agg (subC x av qv).toArray] w (GivesOwn w x) := by
  have hone := sub_all x (rl_one ha) (rl_one hq)
  obtain ⟨hz1, hz2⟩ := hz
  obtain ⟨Aa, ka, rfl, _, ham⟩ := ha.shape
  obtain ⟨Aq, kq, rfl, _, hqm⟩ := hq.shape
  unfold maxLen at ham hqm
  obtain ⟨Z, hZ⟩ : ∃ Z : List Value, Z = [.int .i64 0, .string ⟨#[]⟩, .string ⟨#[]⟩, .string ⟨#[]⟩, .int .i64 0, .int .i64 0, .int .i64 0, .slice none 0 0, .slice none 0 0, .string ⟨#[]⟩] := ⟨_, rfl⟩
  obtain ⟨W0, hW0⟩ : ∃ W0, W0 = (w.alloc (.cells (subC x (.slice Aa x.acks.length ka) (.slice Aq x.queue.length kq)).toArray 30)).alloc (.cells Z.toArray 30) := ⟨_, rfl⟩
  have hx0 : Wh W0 w.heap.size (subC x (.slice Aa x.acks.length ka) (.slice Aq x.queue.length kq)) 30 := by rw [hW0]; exact (Wh.new w _ _).alloc _
  have ho0 : Wh W0 (w.heap.size + 1) Z 30 := by
    have := Wh.new (w.alloc (.cells (subC x (.slice Aa x.acks.length ka) (.slice Aq x.queue.length kq)).toArray 30)) Z 30
    rw [World.size_alloc] at this
    rw [hW0]; exact this
  have hb0 : Below w.heap.size w W0 := by rw [hW0]; exact below_two w _ _ _ _
  have hs0 : W0.heap.size = w.heap.size + 2 := by rw [hW0]; simp
  have HCA := Lib.hid (cloneI_any (.slice Aa x.acks.length ka) x.acks W0 (ha.below stays_ci hb0) (by omega))
  have HQ := Lib.hid hq
  have HX0 := Lib.hid hx0
  have HO0 := Lib.hid ho0
  have HB0 := Lib.hid hb0
  have HS0 := Lib.hid hs0
  have HL2 := Lib.hid hz2
  have HZL := Lib.hid (show Z.toArray.size = 10 by rw [hZ]; rfl)
  rw [hZ] at hW0
  obtain ⟨xx, hxx⟩ : ∃ xx, xx = x := ⟨_, rfl⟩
  rw [show GivesOwn w x = GivesOwn w xx by rw [hxx]]
  have HXX := Lib.hid hxx
  clear ha hq hx0 ho0 hb0 hs0 hz1 hz2 hZ hone hxx
  obtain ⟨id, name, topic, want, lease, most, floor, acks, queue, note⟩ := x
  simp only [subC] at HX0 hW0 HCA HQ ⊢
  go_enter Tryz.func103, Tryz.ntmps103
  go_wp2_with fail
  rw [← hW0]
  clear hW0
  refine HCA.out.mono ?_
  rintro e w1 ⟨u, rfl, hu, hb1⟩
  have hbt := HB0.out.trans (hb1.mono HB0.out.size)
  obtain ⟨Au, ku, rfl, _, hum⟩ := hu.rl.shape
  unfold maxLen at hum
  have hx1 := HX0.out.below hb1
  have hx2 := hx1.set1 7 (.slice Au acks.length ku)
  simp only [List.set_cons_succ, List.set_cons_zero] at hx2
  have ho2 := (HO0.out.below hb1).set1Other (k := w.heap.size) (by omega) 7 (.slice Au acks.length ku)
  have f7 := hx1.frozen 7
  have c7 := hx1.bx.cell (i := 7) (by simp)
  simp only [List.getElem_cons_succ, List.getElem_cons_zero] at c7
  have hu2 := hu.grown fixed_ci (grown_cell w1 w.heap.size 7 (.slice Au acks.length ku)) (fun g e => by cases e; exact ⟨_, _, hx1, by decide⟩)
  have hbs := hbt.setCell (p := ⟨w.heap.size, 7, none⟩) (Nat.le_refl _) (.slice Au acks.length ku)
  have hsz2 : (w1.setCell ⟨w.heap.size, 7, none⟩ (.slice Au acks.length ku)).heap.size = w1.heap.size := by simp
  have hl1 := hx1.lt
  have hl2 := ho2.lt
  obtain ⟨W2, hW2⟩ : ∃ W2, W2 = w1.setCell ⟨w.heap.size, 7, none⟩ (.slice Au acks.length ku) := ⟨_, rfl⟩
  rw [← hW2] at hx2 ho2 hu2 hbs hsz2 hl2
  have c8 := hx2.bx.cell (i := 8) (by simp)
  simp only [List.getElem_cons_succ, List.getElem_cons_zero] at c8
  rw [hW2] at c8
  have HX2 := Lib.hid hx2
  have HO2 := Lib.hid ho2
  have HU2 := Lib.hid hu2
  have HB2 := Lib.hid hbs
  have HZ2 := Lib.hid hsz2
  have HL := Lib.hid hl1
  have HLB := Lib.hid hl2
  have HCM := Lib.hid (cloneM_any (.slice Aq queue.length kq) queue W2 (HQ.out.below stays_cm (HB2.out.mono (Nat.le_refl _))) (Nat.le_trans (Nat.mul_le_mul_right 88 HL2.out) (by decide)))
  clear hu hb1 hbt hx1 hx2 ho2 hu2 hbs hsz2 hl1 hl2 HX0 HO0 HCA
  go_wp2_with fail
  rw [← hW2]
  clear hW2 c8 f7 c7
  refine HCM.out.mono ?_
  rintro e w3 ⟨u3, rfl, hu3, hb3⟩
  obtain ⟨A3, k3, rfl, _, hum3⟩ := hu3.rl.shape
  unfold maxLen at hum3
  have hbt3 := HB2.out.trans (hb3.mono HB2.out.size)
  have hx3 := HX2.out.below hb3
  have hx4 := hx3.set1 8 (.slice A3 queue.length k3)
  simp only [List.set_cons_succ, List.set_cons_zero] at hx4
  have hl0 := HLB.out
  have hs0 := HS0.out
  have ho4 := (HO2.out.below hb3).set1Other (k := w.heap.size) (by omega) 8 (.slice A3 queue.length k3)
  have f8 := hx3.frozen 8
  have c8 := hx3.bx.cell (i := 8) (by simp)
  simp only [List.getElem_cons_succ, List.getElem_cons_zero] at c8
  have hg4 := grown_cell w3 w.heap.size 8 (.slice A3 queue.length k3)
  have hu4 := hu3.grown fixed_cm hg4 (fun g e => by cases e; exact ⟨_, _, hx3, by decide⟩)
  have hu5 := (HU2.out.below fixed_ci hb3).grown fixed_ci hg4 (fun g e => by cases e; exact ⟨_, _, hx3, by decide⟩)
  have hbs4 := hbt3.setCell (p := ⟨w.heap.size, 8, none⟩) (Nat.le_refl _) (.slice A3 queue.length k3)
  have hr4 := hx4.range
  have hva : (#[.int .i64 id, sv name, sv topic, sv want, .int .i64 lease, .int .i64 most, .int .i64 floor, .slice Au acks.length ku, .slice A3 queue.length k3, sv note] : Array Value).all (·.oneCell') = true := sub_all ⟨id, name, topic, want, lease, most, floor, acks, queue, note⟩ (av := .slice Au acks.length ku) (qv := .slice A3 queue.length k3) rfl rfl
  have HR4 := Lib.hid hr4
  have HO4 := Lib.hid ho4
  have HU4 := Lib.hid hu4
  have HU5 := Lib.hid hu5
  have HB4 := Lib.hid hbs4
  have HVA := Lib.hid hva
  clear hu3 hb3 hx3 hx4 ho4 hg4 hu4 hu5 hbs4 hr4 hva hbt3
  go_wp2_with (first
    | (refine wpList_load_midG (by rfl) 30 (.tmp 1) rfl w.heap.size 0 rfl _ _ HR4.out Tryz.underlying30 rfl size35 ?_)
    | (refine wpList_store_row rfl 30 (.tmp 2) (.tmp 11) rfl (w.heap.size + 1) #[.int .i64 id, sv name, sv topic, sv want, .int .i64 lease, .int .i64 most, .int .i64 floor, .slice Au acks.length ku, .slice A3 queue.length k3, sv note] rfl rfl 30 Z.toArray HO4.out size35 HZL.out HVA.out ?_))
  refine bodyPost_ret (results_cell_row rfl _ _ (w.heap.size + 1) 30 #[.int .i64 id, sv name, sv topic, sv want, .int .i64 lease, .int .i64 most, .int .i64 floor, .slice Au acks.length ku, .slice A3 queue.length k3, sv note] (0, 0) _ rfl (HO4.out.set [.int .i64 id, sv name, sv topic, sv want, .int .i64 lease, .int .i64 most, .int .i64 floor, .slice Au acks.length ku, .slice A3 queue.length k3, sv note]) Tryz.underlying30 rfl size35) rfl ?_
  rw [HXX.out]
  have hgr := grown_row (w3.setCell ⟨w.heap.size, 8, none⟩ (.slice A3 queue.length k3)) (w.heap.size + 1) #[.int .i64 id, sv name, sv topic, sv want, .int .i64 lease, .int .i64 most, .int .i64 floor, .slice Au acks.length ku, .slice A3 queue.length k3, sv note]
  refine ⟨_, rfl, ⟨_, _, rfl, ?_, ?_⟩, below_setRow HB4.out (by omega) #[.int .i64 id, sv name, sv topic, sv want, .int .i64 lease, .int .i64 most, .int .i64 floor, .slice Au acks.length ku, .slice A3 queue.length k3, sv note]⟩
  · exact HU5.out.grown fixed_ci hgr (fun g e => by cases e; exact ⟨_, _, HO4.out, by decide⟩)
  · exact HU4.out.grown fixed_cm hgr (fun g e => by cases e; exact ⟨_, _, HO4.out, by decide⟩)
end Go.Proofs.YtodckdkbheapfaaGreat
set_option linter.unusedVariables false
namespace Go.Proofs.YtodckdkbheapfaaGreat
open Go.RowKit Go.Rst Go.Tp Go.Ts
def OM (base : Nat) (wr : World) (v : Value) (xs : List Msg) : Prop := wr.ownsRow base 45 8 v xs.length (xs.map msgC).flatten
theorem OM.nil_ (base : Nat) (wr : World) : OM base wr (.slice none 0 0) [] := World.ownsRow_nil _ _ _ _
theorem OM.rl {base : Nat} {wr : World} {v : Value} {xs : List Msg} (h : OM base wr v xs) : RM wr v xs := (rlt_msgs h).rl
theorem own_two {w w' : World} {B B2 : Nat} {e1 e2 : TypeId} {s1 s2 n1 n2 : Nat} {v1 v2 : Value} {xs1 xs2 : List Value} (h1 : w.ownsRow B e1 s1 v1 n1 xs1) (h2 : w.ownsRow B2 e2 s2 v2 n2 xs2) (hne : e1 ≠ e2) (hg : w.grownBy w' v2.ownBlock) : w'.ownsRow B e1 s1 v1 n1 xs1 := by
  cases hb : v2.ownBlock with
  | none => rw [hb] at hg; exact own_below h1 ⟨hg.os, hg.tape, hg.output, hg.size, fun k hk => hg.block k hk (by simp)⟩
  | some g =>
    obtain ⟨cur, hc⟩ := row_kind h2 g hb
    rw [hb] at hg
    refine h1.kept hg ?_
    rcases h1.2 with ⟨rfl, _⟩ | ⟨k, cap, cur', rfl, hk, hk2, _⟩
    · exact .inl rfl
    · refine .inr fun e => ?_
      have : g = k := by simpa [Value.ownBlock] using e.symm
      subst this
      rw [hc] at hk2
      injection hk2 with hk2
      injection hk2 with _ hk2 _
      exact hne hk2.symm
theorem own_apart {w w' : World} {B : Nat} {e : TypeId} {s n : Nat} {v : Value} {xs : List Value} {g : Nat} (h : w.ownsRow B e s v n xs) (hg : w.grownBy w' (some g)) (hne : ∀ k, v.ownBlock = some k → k ≠ g) : w'.ownsRow B e s v n xs := by
  refine h.kept hg ?_
  rcases h.2 with ⟨rfl, _⟩ | ⟨k, cap, cur', rfl, hk, hk2, _⟩
  · exact .inl rfl
  · refine .inr fun e => ?_
    have : g = k := by simpa [Value.ownBlock] using e.symm
    exact hne k (by simp [Value.ownBlock]) this.symm
end Go.Proofs.YtodckdkbheapfaaGreat
