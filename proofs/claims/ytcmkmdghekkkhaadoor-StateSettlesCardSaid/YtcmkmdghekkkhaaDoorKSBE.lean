/-
  Words for a row of subscriptions of the call's own (layer state). No program but the seat's types.; Words for slices of structs in blocks of a known kind, kept while rows of another kind grow (layer state). No program but the seat's types.; Words for what is settled, rows of ints of the call's own (layer state). No program but the seat's types.; The contracts of slices.Clone of numbers and of messages, and of the program's own (layer state).; Words for rows of messages of the call's own, and for rows beside each other (layer state). No program but the seat's types.
-/
import Derived.RangeFuncBox
import Derived.Test.YtcmkmdghekkkhaaDoorKSBD
set_option linter.unusedVariables false
set_option linter.unusedVariables false
namespace Go.Proofs.YtcmkmdghekkkhaaDoor
open Go.RowKit Go.Rst Go.Tp Go.Ts
def OS (w : World) (base : Nat) (wr : World) (v : Value) (ys : List Sub) : Prop := ∃ css : List (List Value), wr.ownsRow base 35 10 v ys.length css.flatten ∧ css.length = ys.length ∧ ∀ j (h1 : j < ys.length) (h2 : j < css.length), CS w ys[j] css[j]
theorem cs_len {w : World} {x : Sub} {cs : List Value} (h : CS w x cs) : cs.length = 10 := by obtain ⟨av, qv, rfl, _⟩ := h; rfl
theorem OS.nil_ (w : World) (base : Nat) (wr : World) : OS w base wr (.slice none 0 0) [] := ⟨[], World.ownsRow_nil _ _ _ _, rfl, fun j h => by simp at h⟩
theorem OS.rl {w : World} {base : Nat} {wr : World} {v : Value} {ys : List Sub} (h : OS w base wr v ys) : RSo w wr v ys := by
  obtain ⟨css, ho, hl, hc⟩ := h
  refine RL.own ho hl (fun cs hcs => ?_) (fun j h1 h2 => hc j h1 h2)
  obtain ⟨j, hj, rfl⟩ := List.getElem_of_mem hcs
  exact cs_len (hc j (by omega) hj)
theorem OS.shape {w : World} {base : Nat} {wr : World} {v : Value} {ys : List Sub} (h : OS w base wr v ys) : ∃ A c, v = .slice A ys.length c ∧ ys.length ≤ c := by
  obtain ⟨css, ho, _⟩ := h; exact own_shape ho
theorem grown_cell (W : World) (b i : Nat) (v : Value) : W.grownBy (W.setCell ⟨b, i, none⟩ v) (some b) :=
  ⟨rfl, rfl, rfl, (KeepsWalks.setCell W _ v).size, fun k _ hk => Below.heap_setCell _ _ _ k (fun e => hk (by rw [e]))⟩
theorem grown_row (W : World) (b : Nat) (cs : Array Value) : W.grownBy (W.setRow b cs) (some b) :=
  ⟨rfl, rfl, rfl, by simp, fun k _ hk => setRow_other W b k cs (fun e => hk (by rw [e]))⟩
theorem OS.kept {w : World} {base : Nat} {wr w2 : World} {v : Value} {ys : List Sub} {g : Nat} (h : OS w base wr v ys) (hg : wr.grownBy w2 (some g)) (hb : g < base) : OS w base w2 v ys := by
  obtain ⟨css, ho, hl, hc⟩ := h
  refine ⟨css, ho.kept hg ?_, hl, hc⟩
  rcases ho.2 with ⟨rfl, _⟩ | ⟨k, cap, cur, rfl, hk, _⟩
  · exact .inl rfl
  · refine .inr fun e => ?_
    have : g = k := by simpa [Value.ownBlock] using e.symm
    omega
end Go.Proofs.YtcmkmdghekkkhaaDoor
set_option linter.unusedVariables false
namespace Go.Ts
open Go Go.RowKit Go.Rst Go.Tp
section
variable {α : Type} {sz : Nat} {C : World → α → List Value → Prop}
def RLt (t : TypeId) (sz : Nat) (C : World → α → List Value → Prop) (w : World) (v : Value) (xs : List α) : Prop :=
  RL sz C w v xs ∧ (xs = [] ∨ ∃ b off c cur, v = .slice (some ⟨b, off, none⟩) xs.length c ∧ w.heap[b]? = some (.cells cur t (0, 0)))
def Fixed (C : World → α → List Value → Prop) : Prop := ∀ w w' x cs, C w x cs → C w' x cs
theorem cells_block {w w' : World} {b off : Nat} {cs : List Value} (h : CellsAt w b off cs) (hb : w'.heap[b]? = w.heap[b]?) : CellsAt w' b off cs := fun i hi => by
  rw [← h i hi]
  simp only [World.cell?, hb]
theorem RLt.grown (hC : Fixed C) {t : TypeId} {w w' : World} {v : Value} {xs : List α} {row : Option Nat} (h : RLt t sz C w v xs) (hg : w.grownBy w' row) (hne : ∀ g, row = some g → ∃ cur t', w.heap[g]? = some (.cells cur t' (0, 0)) ∧ t' ≠ t) : RLt t sz C w' v xs := by
  obtain ⟨⟨A, c, h1, h2, h3, h4⟩, h5⟩ := h
  rcases h5 with h5 | ⟨b, off, c2, cur, h6, h7⟩
  · subst h5
    exact ⟨⟨A, c, h1, h2, h3, .inl rfl⟩, .inl rfl⟩
  · have hbn : some b ≠ row := by
      intro e
      obtain ⟨cur', t', h8, h9⟩ := hne b e.symm
      rw [h7] at h8
      injection h8 with h8
      injection h8 with _ h8 _
      exact h9 h8.symm
    have hb := (Array.getElem?_eq_some_iff.1 h7).1
    have hk := hg.block b hb hbn
    refine ⟨⟨A, c, h1, h2, h3, ?_⟩, .inr ⟨b, off, c2, cur, h6, hk.trans h7⟩⟩
    rcases h4 with h4 | ⟨b2, off2, h9, h10, h11⟩
    · exact .inl h4
    · rw [h6] at h1
      injection h1 with e1 _ _
      rw [h9] at e1
      injection e1 with e1
      injection e1 with e1 e2 _
      subst e1
      refine .inr ⟨b, off2, h9, Nat.lt_of_lt_of_le h10 hg.size, fun j hj => ?_⟩
      obtain ⟨cs, h12, h13⟩ := h11 j hj
      exact ⟨cs, hC _ _ _ _ h12, cells_block h13 hk⟩
theorem RLt.below (hC : Fixed C) {t : TypeId} {w w' : World} {v : Value} {xs : List α} (h : RLt t sz C w v xs) (hb : Below w.heap.size w w') : RLt t sz C w' v xs :=
  h.grown hC (row := none) ⟨hb.os, hb.tape, hb.output, hb.size, fun k hk _ => hb.block k hk⟩ (fun g e => by cases e)
theorem RLt.rl {t : TypeId} {w : World} {v : Value} {xs : List α} (h : RLt t sz C w v xs) : RL sz C w v xs := h.1
theorem RLt.nil_ (t : TypeId) (w : World) (A : Option Addr) (c : Nat) (hc : c ≤ maxLen) : RLt t sz C w (.slice A 0 c) [] := ⟨RL.nil_ w A c hc, .inl rfl⟩
theorem RLt.own {w : World} {base : Nat} {e : TypeId} {v : Value} {xs : List α} {css : List (List Value)} (h : w.ownsRow base e sz v xs.length css.flatten) (hl : css.length = xs.length) (hsz : ∀ cs ∈ css, cs.length = sz)
    (hC : ∀ j (h1 : j < xs.length) (h2 : j < css.length), C w xs[j] css[j]) : RLt e sz C w v xs := by
  refine ⟨RL.own h hl hsz hC, ?_⟩
  rcases h.2 with ⟨rfl, h0⟩ | ⟨g, cap, cur, rfl, hb, hg, hle, hcap, hcs, htk⟩
  · exact .inl (List.eq_nil_of_length_eq_zero h0)
  · exact .inr ⟨g, 0, cap, cur, rfl, hg⟩
end
theorem fixed_ci : Fixed CI := fun _ _ _ _ h => h
theorem fixed_cm : Fixed CM := fun _ _ _ _ h => h
end Go.Ts
namespace Go.Proofs.YtcmkmdghekkkhaaDoor
open Go.RowKit Go.Rst Go.Tp Go.Ts
def CN (w : World) (x : Sub) (cs : List Value) : Prop := ∃ av qv, cs = subC x av qv ∧ RLt 3 1 CI w av x.acks ∧ RLt 55 8 CM w qv x.queue
theorem CN.cs {w : World} {x : Sub} {cs : List Value} (h : CN w x cs) : CS w x cs := let ⟨av, qv, h1, h2, h3⟩ := h; ⟨av, qv, h1, h2.rl, h3.rl⟩
theorem CN.grown {w w' : World} {x : Sub} {cs : List Value} {row : Option Nat} (h : CN w x cs) (hg : w.grownBy w' row) (hne : ∀ g, row = some g → ∃ cur, w.heap[g]? = some (.cells cur 35 (0, 0))) : CN w' x cs := by
  obtain ⟨av, qv, h1, h2, h3⟩ := h
  exact ⟨av, qv, h1, h2.grown fixed_ci hg (fun g e => let ⟨cur, hc⟩ := hne g e; ⟨cur, _, hc, by decide⟩), h3.grown fixed_cm hg (fun g e => let ⟨cur, hc⟩ := hne g e; ⟨cur, _, hc, by decide⟩)⟩
theorem CN.below {w w' : World} {x : Sub} {cs : List Value} (h : CN w x cs) (hb : Below w.heap.size w w') : CN w' x cs := by
  obtain ⟨av, qv, h1, h2, h3⟩ := h
  exact ⟨av, qv, h1, h2.below fixed_ci hb, h3.below fixed_cm hb⟩
def ON (base : Nat) (wr : World) (v : Value) (ys : List Sub) : Prop := ∃ css : List (List Value), wr.ownsRow base 35 10 v ys.length css.flatten ∧ css.length = ys.length ∧ ∀ j (h1 : j < ys.length) (h2 : j < css.length), CN wr ys[j] css[j]
theorem ON.nil_ (base : Nat) (wr : World) : ON base wr (.slice none 0 0) [] := ⟨[], World.ownsRow_nil _ _ _ _, rfl, fun j h => by simp at h⟩
theorem ON.rs {base : Nat} {wr : World} {v : Value} {ys : List Sub} (h : ON base wr v ys) : RS wr v ys := by
  obtain ⟨css, ho, hl, hc⟩ := h
  refine RL.own ho hl (fun cs hcs => ?_) (fun j h1 h2 => (hc j h1 h2).cs)
  obtain ⟨j, hj, rfl⟩ := List.getElem_of_mem hcs
  exact cs_len (hc j (by omega) hj).cs
theorem ON.shape {base : Nat} {wr : World} {v : Value} {ys : List Sub} (h : ON base wr v ys) : ∃ A c, v = .slice A ys.length c ∧ ys.length ≤ c := by
  obtain ⟨css, ho, _⟩ := h; exact own_shape ho
theorem row_kind {w : World} {base : Nat} {e : TypeId} {sz : Nat} {v : Value} {n : Nat} {xs : List Value} (h : w.ownsRow base e sz v n xs) : ∀ g, v.ownBlock = some g → ∃ cur, w.heap[g]? = some (.cells cur e (0, 0)) := by
  intro g hg
  rcases h.2 with ⟨rfl, h0⟩ | ⟨k, cap, cur, rfl, hb, hk, _⟩
  · cases hg
  · have : k = g := by simpa [Value.ownBlock] using hg
    subst this
    exact ⟨cur, hk⟩
theorem ON.below {base : Nat} {wr w2 : World} {v : Value} {ys : List Sub} (h : ON base wr v ys) (hb : Below wr.heap.size wr w2) : ON base w2 v ys := by
  obtain ⟨css, ho, hl, hc⟩ := h
  exact ⟨css, own_below ho hb, hl, fun j h1 h2 => (hc j h1 h2).below hb⟩
theorem ON.kept {base : Nat} {wr w2 : World} {v : Value} {ys : List Sub} {g : Nat} (h : ON base wr v ys) (hg : wr.grownBy w2 (some g)) (hb : g < base) (hk : ∃ cur t', wr.heap[g]? = some (.cells cur t' (0, 0)) ∧ t' ≠ 3 ∧ t' ≠ 55) : ON base w2 v ys := by
  obtain ⟨css, ho, hl, hc⟩ := h
  refine ⟨css, ho.kept hg ?_, hl, fun j h1 h2 => ?_⟩
  · rcases ho.2 with ⟨rfl, _⟩ | ⟨k, cap, cur, rfl, hk, _⟩
    · exact .inl rfl
    · refine .inr fun e => ?_
      have : g = k := by simpa [Value.ownBlock] using e.symm
      omega
  · obtain ⟨av, qv, h1, h2, h3⟩ := hc j h1 h2
    obtain ⟨cur, t', hk1, hk2, hk3⟩ := hk
    exact ⟨av, qv, h1, h2.grown fixed_ci hg (fun g' e => by cases e; exact ⟨cur, t', hk1, hk2⟩), h3.grown fixed_cm hg (fun g' e => by cases e; exact ⟨cur, t', hk1, hk3⟩)⟩
end Go.Proofs.YtcmkmdghekkkhaaDoor
set_option linter.unusedVariables false
namespace Go.Ts
def upL (F : Int) (l : List Int) : List Int := l.filter fun n => decide (F < n)
theorem upL_take {F : Int} {l : List Int} {k : Nat} (hk : k < l.length) : upL F (l.take (k + 1)) = upL F (l.take k) ++ (if F < l[k] then [l[k]] else []) := by
  unfold upL
  rw [List.take_succ_eq_append_getElem hk, List.filter_append]
  congr 1
  by_cases h : F < l[k]
  · rw [if_pos h]; simp [h]
  · rw [if_neg h]; simp [h]
end Go.Ts
namespace Go.Proofs.YtcmkmdghekkkhaaDoor
open Go.RowKit Go.Rst Go.Tp Go.Ts
theorem infoNum : (Tryd.prog.info? 3).map (fun i => (i.zero, i.size, i.bytes)) = some (some (.int .i64 0), 1, 8) := by kernel_rfl
def iv (n : Int) : Value := .int .i64 n
def OI (base : Nat) (wr : World) (v : Value) (ys : List Int) : Prop := wr.ownsRow base 3 1 v ys.length (ys.map iv)
theorem OI.nil_ (base : Nat) (wr : World) : OI base wr (.slice none 0 0) [] := World.ownsRow_nil _ _ _ _
theorem OI.rl {base : Nat} {wr : World} {v : Value} {ys : List Int} (h : OI base wr v ys) : RI wr v ys := by
  have e : (ys.map fun n => [iv n]).flatten = ys.map iv := by
    induction ys with
    | nil => rfl
    | cons a l ih =>
      have : ∀ l : List Int, (l.map fun n => [iv n]).flatten = l.map iv := fun l => by induction l with
        | nil => rfl
        | cons a l ih => simp [ih]
      exact this _
  unfold OI at h
  rw [← e] at h
  refine RL.own h (by simp) (fun cs hcs => ?_) (fun j h1 h2 => ?_)
  · obtain ⟨n, _, rfl⟩ := List.mem_map.1 hcs; rfl
  · rw [List.getElem_map]; rfl
theorem OI.kept {base : Nat} {wr w2 : World} {v : Value} {ys : List Int} {g : Nat} (h : OI base wr v ys) (hg : wr.grownBy w2 (some g)) (hb : g < base) : OI base w2 v ys := by
  refine World.ownsRow.kept h hg ?_
  rcases h.2 with ⟨rfl, _⟩ | ⟨k, cap, cur, rfl, hk, _⟩
  · exact .inl rfl
  · refine .inr fun e => ?_
    have : g = k := by simpa [Value.ownBlock] using e.symm
    omega
def GivesSub (w : World) (x : Sub) (e : Ending) (w' : World) : Prop := ∃ av qv, e = .returned (.agg (subC x av qv).toArray) ∧ RI w' av x.acks ∧ RM w' qv x.queue ∧ Below w.heap.size w w'
end Go.Proofs.YtcmkmdghekkkhaaDoor
set_option linter.unusedVariables false
namespace Go.Ts
open Go Go.RowKit Go.Rst Go.Tp
def Sized (x : Sub) : Prop := x.acks.length ≤ 17592186043904 ∧ x.queue.length ≤ 1599289640354
theorem Sized.few {x : Sub} (h1 : x.acks.length ≤ 1000000) (h2 : x.queue.length ≤ 1000000) : Sized x := ⟨by omega, by omega⟩
theorem src_rl {α : Type} {sz : Nat} {f : α → List Value} (hlen : ∀ x, (f x).length = sz) (hone : ∀ x, ∀ u ∈ f x, u.oneCell' = true) {P : Program} {w : World} {v : Value} {xs : List α} (h : RL sz (fun _ x cs => cs = f x) w v xs) {tx e : TypeId} (hk : P.underlying tx = some (.slice e)) :
    Src P sz tx v xs.length (xs.map f).flatten w := by
  obtain ⟨A, c, rfl, h2, h3, h4⟩ := h
  have hfl : (xs.map f).flatten.length = xs.length * sz := by
    rw [flatten_len _ (fun cs hcs => by obtain ⟨x, _, rfl⟩ := List.mem_map.1 hcs; exact hlen x), List.length_map]
  have hall : ∀ u ∈ (xs.map f).flatten, u.oneCell' = true := fun u hu => by
    obtain ⟨cs, hcs, hu⟩ := List.mem_flatten.1 hu
    obtain ⟨x, _, rfl⟩ := List.mem_map.1 hcs
    exact hone x u hu
  rcases h4 with h4 | ⟨b, off, rfl, hb, hj⟩
  · subst h4
    cases A with
    | none => exact Src.ofNil _ hk c
    | some a => exact Src.ofSlice _ hk a 0 c [] (by simp) (fun j x hj => by simp at hj) (fun u hu => by cases hu)
  · refine Src.ofSlice _ hk ⟨b, off, none⟩ _ c _ hfl (fun j x hx => ?_) hall
    rw [Addr.add_lit]
    have hlt := (List.getElem?_eq_some_iff.1 hx).1
    rw [hfl] at hlt
    have hsz : 0 < sz := by
      rcases Nat.eq_zero_or_pos sz with h0 | h0
      · rw [h0] at hlt; omega
      · exact h0
    have hq : j / sz < xs.length := by rw [Nat.div_lt_iff_lt_mul hsz]; exact hlt
    have hr := Nat.mod_lt j hsz
    obtain ⟨cs, hcs, hcell⟩ := hj (j / sz) hq
    have hg := flatten_get (sz := sz) (xs.map f) (fun cs hcs => by obtain ⟨x, _, rfl⟩ := List.mem_map.1 hcs; exact hlen x) (j / sz) (by simpa using hq) (j % sz) (by rw [List.getElem_map, hlen]; exact hr)
    have hjj : j / sz * sz + j % sz = j := by rw [Nat.mul_comm]; exact Nat.div_add_mod j sz
    rw [hjj, hx] at hg
    injection hg with hg
    have hc := hcell (j % sz) (by rw [hcs, hlen]; exact hr)
    rw [show off + j = off + j / sz * sz + j % sz by omega, hc, hg]
    subst hcs
    simp [List.getElem_map]
theorem src_ints {P : Program} {w : World} {v : Value} {xs : List Int} (h : RI w v xs) {tx e : TypeId} (hk : P.underlying tx = some (.slice e)) : Src P 1 tx v xs.length (xs.map fun n => [Value.int .i64 n]).flatten w :=
  src_rl (f := fun n => [Value.int .i64 n]) (fun _ => rfl) (fun x u hu => by rw [List.mem_singleton.1 hu]; rfl) h hk
theorem msg_one (m : Msg) : ∀ u ∈ msgC m, u.oneCell' = true := by
  intro u hu
  simp only [msgC, List.mem_cons, List.not_mem_nil, or_false] at hu
  rcases hu with rfl | rfl | rfl | rfl | rfl | rfl | rfl | rfl <;> rfl
theorem src_msgs {P : Program} {w : World} {v : Value} {xs : List Msg} (h : RM w v xs) {tx e : TypeId} (hk : P.underlying tx = some (.slice e)) : Src P 8 tx v xs.length (xs.map msgC).flatten w :=
  src_rl (f := msgC) (fun _ => rfl) msg_one h hk
theorem rlt_ints {w : World} {base : Nat} {e : TypeId} {v : Value} {xs : List Int} (h : w.ownsRow base e 1 v xs.length (xs.map fun n => [Value.int .i64 n]).flatten) : RLt e 1 CI w v xs := by
  refine RLt.own h (by simp) (fun cs hcs => ?_) (fun j h1 h2 => ?_)
  · obtain ⟨n, _, rfl⟩ := List.mem_map.1 hcs; rfl
  · rw [List.getElem_map]; rfl
theorem rlt_msgs {w : World} {base : Nat} {e : TypeId} {v : Value} {xs : List Msg} (h : w.ownsRow base e 8 v xs.length (xs.map msgC).flatten) : RLt e 8 CM w v xs := by
  refine RLt.own h (by simp) (fun cs hcs => ?_) (fun j h1 h2 => ?_)
  · obtain ⟨n, _, rfl⟩ := List.mem_map.1 hcs; rfl
  · rw [List.getElem_map]; rfl
end Go.Ts
namespace Go.Proofs.YtcmkmdghekkkhaaDoor
open Go.RowKit Go.Rst Go.Tp Go.Ts
theorem eql_nilS (w : World) (t e : TypeId) (a : Option Addr) (l c : Nat) (h : Tryd.prog.underlying t = some (.slice e)) : (binOp .eql t (.slice a l c) (.slice none 0 0)).run Tryd.prog w = .ok (.bool a.isNone) w := by
  have := run_equal_slice_nil (P := Tryd.prog) w t e a l c h
  simp [binOp, this]
theorem own_emptyS (w : World) (e : TypeId) (size : Nat) : (w.alloc (Obj.cells #[] e)).ownsRow w.heap.size e size (.slice (some ⟨w.heap.size, 0, none⟩) 0 0) 0 [] :=
  ⟨by simp, .inr ⟨w.heap.size, 0, #[], rfl, Nat.le_refl _, heap_alloc_new w _, Nat.le_refl _, Nat.zero_le _, by simp, by simp⟩⟩
theorem infoMsg : (Tryd.prog.info? 55).map (fun i => (i.zero, i.size, i.bytes)) = some (some (.agg #[.int .i64 0, .string .empty, .string .empty, .int .i64 0, .int .i64 0, .bool false, .string .empty, .int .i64 0]), 8, 88) := by kernel_rfl
end Go.Proofs.YtcmkmdghekkkhaaDoor
set_option linter.unusedVariables false
namespace Go.Proofs.YtcmkmdghekkkhaaDoor
open Go.RowKit Go.Rst Go.Tp Go.Ts
def OM (base : Nat) (wr : World) (v : Value) (xs : List Msg) : Prop := wr.ownsRow base 55 8 v xs.length (xs.map msgC).flatten
theorem OM.nil_ (base : Nat) (wr : World) : OM base wr (.slice none 0 0) [] := World.ownsRow_nil _ _ _ _
theorem OM.rl {base : Nat} {wr : World} {v : Value} {xs : List Msg} (h : OM base wr v xs) : RM wr v xs := (rlt_msgs h).rl
theorem own_two {w w' : World} {B B2 : Nat} {e1 e2 : TypeId} {s1 s2 n1 n2 : Nat} {v1 v2 : Value} {xs1 xs2 : List Value} (h1 : w.ownsRow B e1 s1 v1 n1 xs1) (h2 : w.ownsRow B2 e2 s2 v2 n2 xs2) (hne : e1 ≠ e2) (hg : w.grownBy w' v2.ownBlock) : w'.ownsRow B e1 s1 v1 n1 xs1 := by
  cases hb : v2.ownBlock with
  | none => rw [hb] at hg; exact own_below h1 ⟨hg.os, hg.tape, hg.output, hg.size, fun k hk => hg.block k hk (by simp)⟩
  | some g =>
    obtain ⟨cur, hc⟩ := row_kind h2 g hb
    rw [hb] at hg
    refine h1.kept hg ?_
    rcases h1.2 with ⟨rfl, _⟩ | ⟨k, cap, cur', rfl, hk, hk2, _⟩
    · exact .inl rfl
    · refine .inr fun e => ?_
      have : g = k := by simpa [Value.ownBlock] using e.symm
      subst this
      rw [hc] at hk2
      injection hk2 with hk2
      injection hk2 with _ hk2 _
      exact hne hk2.symm
theorem own_apart {w w' : World} {B : Nat} {e : TypeId} {s n : Nat} {v : Value} {xs : List Value} {g : Nat} (h : w.ownsRow B e s v n xs) (hg : w.grownBy w' (some g)) (hne : ∀ k, v.ownBlock = some k → k ≠ g) : w'.ownsRow B e s v n xs := by
  refine h.kept hg ?_
  rcases h.2 with ⟨rfl, _⟩ | ⟨k, cap, cur', rfl, hk, hk2, _⟩
  · exact .inl rfl
  · refine .inr fun e => ?_
    have : g = k := by simpa [Value.ownBlock] using e.symm
    exact hne k (by simp [Value.ownBlock]) this.symm
theorem own_lt {w : World} {B : Nat} {e : TypeId} {s n : Nat} {v : Value} {xs : List Value} (h : w.ownsRow B e s v n xs) : ∀ k, v.ownBlock = some k → k < w.heap.size := fun k hk => by
  obtain ⟨cur, hc⟩ := row_kind h k hk
  exact (Array.getElem?_eq_some_iff.1 hc).1
end Go.Proofs.YtcmkmdghekkkhaaDoor
