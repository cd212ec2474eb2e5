/-
  A drawn region by what each operation leaves: one proof an operation, whatever their order. No program, no condition of one.; A drawn region in which no operation stores, by what each operation leaves: one proof an operation, whatever their order, and what holds behind all. No program, no condition of one.
-/
import Derived.Deep.RegionHeld
import Derived.Test.YtmdkonfmbbbepaaDoorKUBA
set_option linter.unusedVariables false
set_option linter.unusedVariables false
namespace Go.Inv
open Go Go.RowKit Go.Rst
theorem count_set : ∀ (l : List Bool) (i : Nat), l[i]? = some false → (l.set i true).count false + 1 = l.count false
  | [], i, h => by simp at h
  | b :: l, 0, h => by
    simp only [List.getElem?_cons_zero, Option.some.injEq] at h
    subst h
    simp
  | b :: l, i + 1, h => by
    have := count_set l i (by simpa using h)
    rw [List.set_cons_succ, List.count_cons, List.count_cons]
    omega
theorem count_zero {l : List Bool} (h : l.count false = 0) {i : Nat} {b : Bool} (hi : l[i]? = some b) : b = true := by
  cases b with
  | true => rfl
  | false =>
    have : false ∈ l := List.mem_of_getElem? hi
    have := List.count_pos_iff.2 this
    omega
variable {P : Program} {ops : Array Oper} {Q : Exit → Act → World → Prop}
def Dep (ops : Array Oper) (i j : Nat) : Prop := ∃ o, ops[i]? = some o ∧ ∃ e ∈ o.after, Region.binds .any e = true ∧ e.on = j
structure InvS (ops : Array Oper) (Φ : Nat → Value → World → Prop) (a0 : Act) (w0 : World) (listed : Array Bool) (a : Act) (w : World) : Prop where
  size : a.tmps.size = a0.tmps.size
  defers : a.defers = a0.defers
  bel : Below w0.heap.size w0 w
  len : listed.size = ops.size
  fact : ∀ j oj d, ops[j]? = some oj → oj.dst = some d → listed.getD j false = true → Φ j (a.tmps.getD d undef) w
  rest : ∀ d, (∀ j oj, ops[j]? = some oj → oj.dst = some d → listed.getD j false = false) → a.tmps.getD d undef = a0.tmps.getD d undef
theorem getD_put {t : Array Value} {d : Nat} {v : Value} (h : d < t.size) : (t.setIfInBounds d v).getD d undef = v := by
  simp [Array.getD_eq_getD_getElem?, h]
theorem getD_put_ne {t : Array Value} {d k : Nat} {v : Value} (h : d ≠ k) : (t.setIfInBounds d v).getD k undef = t.getD k undef := by
  simp [Array.getD_eq_getD_getElem?, Array.getElem?_setIfInBounds_ne h]
theorem wp_region_inv {id : Nat} {a0 : Act} {w0 : World} {n : Nat} (Φ : Nat → Value → World → Prop) (hm : P.follows .mixedOrders = true) (hn : ops.size = n + 1)
    (hgd : ∀ (i : Nat) o, ops[i]? = some o → o.guard = none)
    (hds : ∀ (i : Nat) o, i < n → ops[i]? = some o → ∃ d, o.dst = some d ∧ d < a0.tmps.size)
    (hne : ∀ (i j : Nat) oi oj d, ops[i]? = some oi → ops[j]? = some oj → oi.dst = some d → oj.dst = some d → i = j)
    (hall : ∀ j, j < n → Dep ops n j) (htop : ∀ i j, Dep ops i j → j < i)
    (stab : ∀ i v w1 w2, Φ i v w1 → Below w1.heap.size w1 w2 → Φ i v w2)
    (step : ∀ (i : Nat) o (a : Act) w, i < n → ops[i]? = some o → Below w0.heap.size w0 w → (∀ j oj d, Dep ops i j → ops[j]? = some oj → oj.dst = some d → Φ j (a.tmps.getD d undef) w) →
      (∀ d, (∀ (j : Nat) oj, ops[j]? = some oj → oj.dst ≠ some d) → a.tmps.getD d undef = a0.tmps.getD d undef) → ∀ K : Act → World → Prop, (∀ v w', Φ i v w' → Below w.heap.size w w' → K (a.put o.dst v) w') → o.wp P a w K Q)
    (last : ∀ o (a : Act) w, ops[n]? = some o → a.tmps.size = a0.tmps.size → a.defers = a0.defers → Below w0.heap.size w0 w → (∀ (j : Nat) oj d, j < n → ops[j]? = some oj → oj.dst = some d → Φ j (a.tmps.getD d undef) w) →
      (∀ d, (∀ (j : Nat) oj, ops[j]? = some oj → oj.dst ≠ some d) → a.tmps.getD d undef = a0.tmps.getD d undef) → o.wp P a w (fun a' w' => Q .normal a' w') Q) :
    (Code.region id ops true).wp P Q a0 w0 := by
  have main : ∀ (fuel : Nat) (listed : Array Bool) (a : Act) (w : World), listed.size = ops.size → listed.toList.count false ≤ fuel →
      ((∀ i, i < ops.size → listed.getD i true = true) ∧ Q .normal a w ∨ listed.getD n true = false ∧ InvS ops Φ a0 w0 listed a w) → wpAnyH P .any ops Q (fun _ => True) fuel listed a w := by
    intro fuel
    induction fuel with
    | zero =>
      intro listed a w hsz hc hI
      have hz : ∀ i, i < ops.size → listed.getD i true = true := fun i hi => by
        have h1 : listed.toList[i]? = some (listed[i]'(by omega)) := by simp [hsz, hi]
        have := count_zero (Nat.le_zero.1 hc) h1
        simp [Array.getD_eq_getD_getElem?, hsz, hi, this]
      refine ⟨?_, ?_⟩
      · refine List.eq_nil_iff_forall_not_mem.2 fun j hj => ?_
        obtain ⟨h1, o, ho, _⟩ := mem_ready.1 hj
        rw [hz j (Array.getElem?_eq_some_iff.1 ho).1] at h1
        cases h1
      · rcases hI with ⟨_, h⟩ | ⟨h, _⟩
        · exact h
        · rw [hz n (by omega)] at h; cases h
    | succ fuel ih =>
      intro listed a w hsz hc hI
      refine ⟨fun hr => ?_, fun i hi => ?_⟩
      · rcases hI with ⟨_, h⟩ | ⟨h, _⟩
        · exact h
        · exfalso
          have hall2 : ∀ i, i < ops.size → listed.getD i true = true := fun i => by
            induction i using Nat.strongRecOn with
            | ind i ihi =>
              intro hi
              cases hb : listed.getD i true with
              | true => rfl
              | false =>
                exfalso
                have : i ∈ Region.ready .any ops listed := mem_ready.2 ⟨hb, ops[i], by simp [hi], fun e he hbd => by
                  have hlt := htop i e.on ⟨ops[i], by simp [hi], e, he, hbd, rfl⟩
                  have h2 := ihi e.on hlt (by omega)
                  rw [Array.getD_eq_getD_getElem?] at h2 ⊢
                  rw [Array.getElem?_eq_getElem (by omega : e.on < listed.size)] at h2 ⊢
                  exact h2⟩
                rw [hr] at this
                cases this
          rw [hall2 n (by omega)] at h
          cases h
      · obtain ⟨hf, o, ho, hdep⟩ := mem_ready.1 hi
        have hio := (Array.getElem?_eq_some_iff.1 ho).1
        have hc2 : (listed.setIfInBounds i true).toList.count false ≤ fuel := by
          have h1 : listed.toList[i]? = some false := by
            rw [Array.getD_eq_getD_getElem?, Array.getElem?_eq_getElem (by omega : i < listed.size)] at hf
            simp only [Option.getD_some] at hf
            simp [hf, hsz, hio]
          have := count_set _ _ h1
          rw [Array.toList_setIfInBounds]
          omega
        rcases hI with ⟨h, _⟩ | ⟨hln, hI⟩
        · rw [h i hio] at hf; cases hf
        · have hw : ∀ t, Region.wanted o t = true := fun t => by simp [Region.wanted, hgd i o ho]
          have hdn : ∀ j, Dep ops i j → listed.getD j false = true := fun j hj => by
            obtain ⟨o2, ho2, e, he, hb, rfl⟩ := hj
            rw [ho] at ho2
            injection ho2 with ho2
            subst ho2
            exact hdep e he hb
          unfold wpOp
          rw [ho]
          show if _ then _ else _
          rw [if_pos (hw _)]
          refine Or.inl ?_
          have hrest : ∀ d, (∀ (j : Nat) oj, ops[j]? = some oj → oj.dst ≠ some d) → a.tmps.getD d undef = a0.tmps.getD d undef := fun d hd => hI.rest d fun j oj h1 h2 => absurd h2 (hd j oj h1)
          by_cases hin : i < n
          · obtain ⟨d, hd, hdl⟩ := hds i o hin ho
            refine step i o a w hin ho hI.bel (fun j oj d2 hj h1 h2 => hI.fact j oj d2 h1 h2 (hdn j hj)) hrest _ (fun v w' hv hb => ⟨trivial, ih _ _ _ (by simp [hsz]) hc2 (Or.inr ⟨by rw [getD_set_ne true (by omega)]; exact hln, ?_⟩)⟩)
            rw [hd]
            refine ⟨by show (a.tmps.setIfInBounds d v).size = _; simp [hI.size], hI.defers, hI.bel.trans (hb.mono hI.bel.size), by simp [hI.len], fun j oj d2 h1 h2 h3 => ?_, fun d2 h => ?_⟩
            · show Φ j ((a.tmps.setIfInBounds d v).getD d2 undef) w'
              by_cases hji : j = i
              · subst hji
                rw [ho] at h1
                injection h1 with h1
                subst h1
                rw [hd] at h2
                injection h2 with h2
                subst h2
                rw [getD_put (by rw [hI.size]; exact hdl)]
                exact hv
              · have hd2 : d ≠ d2 := fun e => hji (hne j i oj o d2 h1 ho h2 (by rw [hd, e]))
                rw [getD_put_ne hd2]
                refine stab _ _ _ _ (hI.fact j oj d2 h1 h2 ?_) hb
                rw [getD_set_ne false (Ne.symm hji)] at h3
                exact h3
            · show (a.tmps.setIfInBounds d v).getD d2 undef = _
              by_cases hdd : d = d2
              · subst hdd
                have := h i o ho hd
                rw [Array.getD_eq_getD_getElem?] at this
                simp [hsz, hio] at this
              · rw [getD_put_ne hdd]
                refine hI.rest d2 fun j oj h1 h2 => ?_
                have h4 := h j oj h1 h2
                by_cases hji : j = i
                · subst hji
                  rw [ho] at h1
                  injection h1 with h1
                  subst h1
                  rw [hd] at h2
                  injection h2 with h2
                  exact absurd h2 hdd
                · rw [getD_set_ne false (Ne.symm hji)] at h4
                  exact h4
          · obtain rfl : i = n := by omega
            refine Oper.wp_mono (fun a' w' h => ⟨trivial, ih _ _ _ (by simp [hsz]) hc2 (Or.inl ⟨fun j hj => ?_, h⟩)⟩) (last o a w ho hI.size hI.defers hI.bel (fun j oj d h1 h2 h3 => hI.fact j oj d h2 h3 (hdn j (hall j h1))) hrest)
            by_cases hji : j = i
            · subst hji
              simp [Array.getD_eq_getD_getElem?, hsz, hio]
            · rw [getD_set_ne true (Ne.symm hji)]
              have := hdn j (hall j (by omega))
              rw [Array.getD_eq_getD_getElem?] at this ⊢
              rw [Array.getElem?_eq_getElem (by omega : j < listed.size)] at this ⊢
              exact this
  refine wp_region_held_drew (S := fun _ => True) hm trivial fun _ => main _ _ _ _ (by simp) ?_ (Or.inr ⟨?_, ?_⟩)
  · simp
  · simp [hn]
  · refine ⟨rfl, rfl, (Below.refl _ _).drew, by simp, fun j oj d h1 h2 h3 => ?_, fun d h => rfl⟩
    have hj := (Array.getElem?_eq_some_iff.1 h1).1
    simp [hj] at h3
def dstOf (ops : Array Oper) (j : Nat) : Nat := ((ops[j]?).bind (·.dst)).getD 0
def depsOf (ops : Array Oper) (i : Nat) : List Nat := match ops[i]? with | some o => (o.after.toList.filter (fun e => Region.binds .any e)).map (·.on) | none => []
def okRegion (ops : Array Oper) (n sz : Nat) : Bool :=
  ops.size == n + 1 && ops.toList.all (fun o => o.guard.isNone) && (List.range n).all (fun i => match (ops[i]?).bind (·.dst) with | some d => decide (d < sz) | none => false) &&
  (List.range n).all (fun i => (List.range i).all fun j => dstOf ops i != dstOf ops j) && (match ops[n]? with | some o => o.dst.isNone | none => false) &&
  (List.range n).all (fun j => (depsOf ops n).contains j) && (List.range (n + 1)).all (fun i => (depsOf ops i).all fun j => decide (j < i))
theorem dep_iff {i j : Nat} : Dep ops i j ↔ j ∈ depsOf ops i := by
  unfold Dep depsOf
  cases h : ops[i]? with
  | none => simp
  | some o => simp only [Option.some.injEq, exists_eq_left', List.mem_map, List.mem_filter, Array.mem_toList_iff]; exact ⟨fun ⟨e, h1, h2, h3⟩ => ⟨e, ⟨h1, h2⟩, h3⟩, fun ⟨e, ⟨h1, h2⟩, h3⟩ => ⟨e, h1, h2, h3⟩⟩
theorem dst_of {j d : Nat} {o : Oper} (h : ops[j]? = some o) (hd : o.dst = some d) : dstOf ops j = d := by simp [dstOf, h, hd]
theorem wp_region_each {id : Nat} {a0 : Act} {w0 : World} {n : Nat} (Φ : Nat → Value → World → Prop) (hm : P.follows .mixedOrders = true) (hok : okRegion ops n a0.tmps.size = true)
    (stab : ∀ i v w1 w2, Φ i v w1 → Below w1.heap.size w1 w2 → Φ i v w2)
    (step : ∀ (i : Nat) o (a : Act) w, i < n → ops[i]? = some o → Below w0.heap.size w0 w → (∀ j ∈ depsOf ops i, Φ j (a.tmps.getD (dstOf ops j) undef) w) →
      (∀ d, d ∉ (List.range n).map (dstOf ops) → a.tmps.getD d undef = a0.tmps.getD d undef) → ∀ K : Act → World → Prop, (∀ v w', Φ i v w' → Below w.heap.size w w' → K (a.put o.dst v) w') → o.wp P a w K Q)
    (last : ∀ o (a : Act) w, ops[n]? = some o → a.tmps.size = a0.tmps.size → a.defers = a0.defers → Below w0.heap.size w0 w → (∀ j, j < n → Φ j (a.tmps.getD (dstOf ops j) undef) w) →
      (∀ d, d ∉ (List.range n).map (dstOf ops) → a.tmps.getD d undef = a0.tmps.getD d undef) → o.wp P a w (fun a' w' => Q .normal a' w') Q) :
    (Code.region id ops true).wp P Q a0 w0 := by
  unfold okRegion at hok
  simp only [Bool.and_eq_true, beq_iff_eq, List.all_eq_true, List.mem_range, decide_eq_true_eq, bne_iff_ne, List.contains_iff_mem] at hok
  obtain ⟨⟨⟨⟨⟨⟨h1, h2⟩, h3⟩, h4⟩, h5⟩, h6⟩, h7⟩ := hok
  have hds : ∀ (i : Nat) o, i < n → ops[i]? = some o → ∃ d, o.dst = some d ∧ d < a0.tmps.size := fun i o hi ho => by
    have := h3 i hi
    rw [ho] at this
    cases hd : o.dst with
    | none => simp [hd] at this
    | some d => exact ⟨d, rfl, by simpa [hd] using this⟩
  have hout : ∀ d, (d ∉ (List.range n).map (dstOf ops)) → ∀ (j : Nat) oj, j < n → ops[j]? = some oj → oj.dst ≠ some d := fun d hd j oj hj ho e => hd (List.mem_map.2 ⟨j, List.mem_range.2 hj, dst_of ho e⟩)
  have hl : ∀ o, ops[n]? = some o → o.dst = none := fun o ho => by simpa [ho] using h5
  have hlt : ∀ (j : Nat) oj d, ops[j]? = some oj → oj.dst = some d → j < n := fun j oj d ho hd => by
    have := (Array.getElem?_eq_some_iff.1 ho).1
    rcases Nat.lt_or_ge j n with h | h
    · exact h
    · obtain rfl : j = n := by omega
      rw [hl oj ho] at hd; cases hd
  have hrest : ∀ (a : Act), (∀ d, (∀ (j : Nat) oj, ops[j]? = some oj → oj.dst ≠ some d) → a.tmps.getD d undef = a0.tmps.getD d undef) → ∀ d, d ∉ (List.range n).map (dstOf ops) → a.tmps.getD d undef = a0.tmps.getD d undef := fun a h d hd => h d fun j oj ho e => hout d hd j oj (hlt j oj d ho e) ho e
  refine wp_region_inv (n := n) Φ hm h1 (fun i o ho => ?_) hds (fun i j oi oj d hi hj hdi hdj => ?_) (fun j hj => dep_iff.2 (h6 j hj)) (fun i j hd => ?_) stab
    (fun i o a w hi ho hb hf hr K hK => step i o a w hi ho hb (fun j hj => ?_) (hrest a hr) K hK)
    (fun o a w ho hs hdf hb hf hr => last o a w ho hs hdf hb (fun j hj => ?_) (hrest a hr))
  · have := h2 o (by rw [Array.mem_toList_iff]; exact Array.mem_of_getElem? ho)
    simpa using this
  · have e1 := dst_of hi hdi
    have e2 := dst_of hj hdj
    rcases Nat.lt_trichotomy i j with h | h | h
    · exact absurd (e2.trans e1.symm) (h4 j (hlt j oj d hj hdj) i h)
    · exact h
    · exact absurd (e1.trans e2.symm) (h4 i (hlt i oi d hi hdi) j h)
  · have hd2 := hd
    obtain ⟨o, ho, _⟩ := hd2
    exact h7 i (by have := (Array.getElem?_eq_some_iff.1 ho).1; omega) j (dep_iff.1 hd)
  · have hji := h7 i (by omega) j hj
    have hjs : j < ops.size := by omega
    obtain ⟨d, hd, _⟩ := hds j ops[j] (by omega) (by simp [hjs])
    rw [dst_of (show ops[j]? = some ops[j] by simp [hjs]) hd]
    exact hf j ops[j] d (dep_iff.2 hj) (by simp [hjs]) hd
  · have hjs : j < ops.size := by omega
    obtain ⟨d, hd, _⟩ := hds j ops[j] hj (by simp [hjs])
    rw [dst_of (show ops[j]? = some ops[j] by simp [hjs]) hd]
    exact hf j ops[j] d hj (by simp [hjs]) hd
theorem tmps_eq {t : Array Value} : ∀ (L : List Nat) (base : Array Value), t.size = base.size → (∀ d, d ∉ L → t.getD d undef = base.getD d undef) → t = L.foldl (fun b d => b.setIfInBounds d (t.getD d undef)) base
  | [], base, hs, h => by
    refine Array.ext hs fun i h1 h2 => ?_
    have := h i (by simp)
    have h3 : i < base.size := h2
    show t[i] = base[i]
    rw [Array.getD_eq_getD_getElem?, Array.getD_eq_getD_getElem?, Array.getElem?_eq_getElem h1, Array.getElem?_eq_getElem h3] at this
    exact this
  | d :: L, base, hs, h => by
    rw [List.foldl_cons]
    refine tmps_eq L _ (by simpa using hs) fun k hk => ?_
    by_cases hkd : d = k
    · subst hkd
      by_cases hlt : d < base.size
      · rw [getD_put hlt]
      · simp [Array.getD_eq_getD_getElem?, Array.getElem?_eq_none (show t.size ≤ d by omega)]
    · rw [getD_put_ne hkd]
      exact h k (by simp only [List.mem_cons, not_or]; exact ⟨fun e => hkd e.symm, hk⟩)
end Go.Inv
set_option linter.unusedVariables false
namespace Go.Inv
open Go Go.RowKit Go.Rst
variable {P : Program} {ops : Array Oper} {Q : Exit → Act → World → Prop}
def okAll (ops : Array Oper) (sz : Nat) : Bool :=
  ops.toList.all (fun o => o.guard.isNone) && (List.range ops.size).all (fun i => match (ops[i]?).bind (·.dst) with | some d => decide (d < sz) | none => false) &&
  (List.range ops.size).all (fun i => (List.range i).all fun j => dstOf ops i != dstOf ops j) && (List.range ops.size).all (fun i => (depsOf ops i).all fun j => decide (j < i))
theorem wp_region_all {id : Nat} {a0 : Act} {w0 : World} (Φ : Nat → Value → World → Prop) (hm : P.follows .mixedOrders = true) (hok : okAll ops a0.tmps.size = true)
    (stab : ∀ i v w1 w2, Φ i v w1 → Below w1.heap.size w1 w2 → Φ i v w2)
    (step : ∀ (i : Nat) o (a : Act) w, ops[i]? = some o → Below w0.heap.size w0 w → (∀ j ∈ depsOf ops i, Φ j (a.tmps.getD (dstOf ops j) undef) w) →
      (∀ d, d ∉ (List.range ops.size).map (dstOf ops) → a.tmps.getD d undef = a0.tmps.getD d undef) → ∀ K : Act → World → Prop, (∀ v w', Φ i v w' → Below w.heap.size w w' → K (a.put o.dst v) w') → o.wp P a w K Q)
    (fin : ∀ (a : Act) w, a.tmps.size = a0.tmps.size → a.defers = a0.defers → Below w0.heap.size w0 w → (∀ j, j < ops.size → Φ j (a.tmps.getD (dstOf ops j) undef) w) →
      (∀ d, d ∉ (List.range ops.size).map (dstOf ops) → a.tmps.getD d undef = a0.tmps.getD d undef) → Q .normal a w) :
    (Code.region id ops true).wp P Q a0 w0 := by
  unfold okAll at hok
  simp only [Bool.and_eq_true, List.all_eq_true, List.mem_range, decide_eq_true_eq, bne_iff_ne] at hok
  obtain ⟨⟨⟨h2, h3⟩, h4⟩, h7⟩ := hok
  have hgd : ∀ (i : Nat) o, ops[i]? = some o → o.guard = none := fun i o ho => by
    have := h2 o (by rw [Array.mem_toList_iff]; exact Array.mem_of_getElem? ho)
    simpa using this
  have hds : ∀ (i : Nat) o, ops[i]? = some o → ∃ d, o.dst = some d ∧ d < a0.tmps.size := fun i o ho => by
    have := h3 i (Array.getElem?_eq_some_iff.1 ho).1
    rw [ho] at this
    cases hd : o.dst with
    | none => simp [hd] at this
    | some d => exact ⟨d, rfl, by simpa [hd] using this⟩
  have hne : ∀ (i j : Nat) oi oj d, ops[i]? = some oi → ops[j]? = some oj → oi.dst = some d → oj.dst = some d → i = j := fun i j oi oj d hi hj hdi hdj => by
    have e1 := dst_of hi hdi
    have e2 := dst_of hj hdj
    rcases Nat.lt_trichotomy i j with h | h | h
    · exact absurd (e2.trans e1.symm) (h4 j (Array.getElem?_eq_some_iff.1 hj).1 i h)
    · exact h
    · exact absurd (e1.trans e2.symm) (h4 i (Array.getElem?_eq_some_iff.1 hi).1 j h)
  have htop : ∀ i j, Dep ops i j → j < i := fun i j hd => by
    have hd2 := hd
    obtain ⟨o, ho, _⟩ := hd2
    exact h7 i (Array.getElem?_eq_some_iff.1 ho).1 j (dep_iff.1 hd)
  have hin : ∀ d, d ∉ (List.range ops.size).map (dstOf ops) → ∀ (j : Nat) oj, ops[j]? = some oj → oj.dst ≠ some d := fun d hd j oj ho e => hd (List.mem_map.2 ⟨j, List.mem_range.2 (Array.getElem?_eq_some_iff.1 ho).1, dst_of ho e⟩)
  have main : ∀ (fuel : Nat) (listed : Array Bool) (a : Act) (w : World), listed.size = ops.size → listed.toList.count false ≤ fuel → InvS ops Φ a0 w0 listed a w → wpAnyH P .any ops Q (fun _ => True) fuel listed a w := by
    have done : ∀ (listed : Array Bool) (a : Act) (w : World), (∀ i, i < ops.size → listed.getD i true = true) → listed.size = ops.size → InvS ops Φ a0 w0 listed a w → Q .normal a w := by
      intro listed a w hz hsz hI
      refine fin a w hI.size hI.defers hI.bel (fun j hj => ?_) (fun d hd => hI.rest d fun j oj ho e => absurd e (hin d hd j oj ho))
      obtain ⟨d, hd, _⟩ := hds j ops[j] (by simp [hj])
      rw [dst_of (show ops[j]? = some ops[j] by simp [hj]) hd]
      refine hI.fact j ops[j] d (by simp [hj]) hd ?_
      have := hz j hj
      rw [Array.getD_eq_getD_getElem?, Array.getElem?_eq_getElem (by omega : j < listed.size)] at this ⊢
      exact this
    intro fuel
    induction fuel with
    | zero =>
      intro listed a w hsz hc hI
      have hz : ∀ i, i < ops.size → listed.getD i true = true := fun i hi => by
        have h1 : listed.toList[i]? = some (listed[i]'(by omega)) := by simp [hsz, hi]
        have := count_zero (Nat.le_zero.1 hc) h1
        simp [Array.getD_eq_getD_getElem?, hsz, hi, this]
      refine ⟨?_, done _ _ _ hz hsz hI⟩
      refine List.eq_nil_iff_forall_not_mem.2 fun j hj => ?_
      obtain ⟨h1, o, ho, _⟩ := mem_ready.1 hj
      rw [hz j (Array.getElem?_eq_some_iff.1 ho).1] at h1
      cases h1
    | succ fuel ih =>
      intro listed a w hsz hc hI
      refine ⟨fun hr => ?_, fun i hi => ?_⟩
      · have hall2 : ∀ i, i < ops.size → listed.getD i true = true := fun i => by
          induction i using Nat.strongRecOn with
          | ind i ihi =>
            intro hi
            cases hb : listed.getD i true with
            | true => rfl
            | false =>
              exfalso
              have : i ∈ Region.ready .any ops listed := mem_ready.2 ⟨hb, ops[i], by simp [hi], fun e he hbd => by
                have hlt := htop i e.on ⟨ops[i], by simp [hi], e, he, hbd, rfl⟩
                have h2 := ihi e.on hlt (by omega)
                rw [Array.getD_eq_getD_getElem?] at h2 ⊢
                rw [Array.getElem?_eq_getElem (by omega : e.on < listed.size)] at h2 ⊢
                exact h2⟩
              rw [hr] at this
              cases this
        exact done _ _ _ hall2 hsz hI
      · obtain ⟨hf, o, ho, hdep⟩ := mem_ready.1 hi
        have hio := (Array.getElem?_eq_some_iff.1 ho).1
        have hc2 : (listed.setIfInBounds i true).toList.count false ≤ fuel := by
          have h1 : listed.toList[i]? = some false := by
            rw [Array.getD_eq_getD_getElem?, Array.getElem?_eq_getElem (by omega : i < listed.size)] at hf
            simp only [Option.getD_some] at hf
            simp [hf, hsz, hio]
          have := count_set _ _ h1
          rw [Array.toList_setIfInBounds]
          omega
        have hw : ∀ t, Region.wanted o t = true := fun t => by simp [Region.wanted, hgd i o ho]
        have hdn : ∀ j, Dep ops i j → listed.getD j false = true := fun j hj => by
          obtain ⟨o2, ho2, e, he, hb, rfl⟩ := hj
          rw [ho] at ho2
          injection ho2 with ho2
          subst ho2
          exact hdep e he hb
        unfold wpOp
        rw [ho]
        show if _ then _ else _
        rw [if_pos (hw _)]
        refine Or.inl ?_
        have hrest : ∀ d, (∀ (j : Nat) oj, ops[j]? = some oj → oj.dst ≠ some d) → a.tmps.getD d undef = a0.tmps.getD d undef := fun d hd => hI.rest d fun j oj h1 h2 => absurd h2 (hd j oj h1)
        obtain ⟨d, hd, hdl⟩ := hds i o ho
        refine step i o a w ho hI.bel (fun j hj => ?_) (fun d hd => hrest d (hin d hd)) _ (fun v w' hv hb => ⟨trivial, ih _ _ _ (by simp [hsz]) hc2 ?_⟩)
        · have hji := htop i j (dep_iff.2 hj)
          have hjs : j < ops.size := by omega
          obtain ⟨d2, hd2, _⟩ := hds j ops[j] (by simp [hjs])
          rw [dst_of (show ops[j]? = some ops[j] by simp [hjs]) hd2]
          exact hI.fact j ops[j] d2 (by simp [hjs]) hd2 (hdn j (dep_iff.2 hj))
        rw [hd]
        refine ⟨by show (a.tmps.setIfInBounds d v).size = _; simp [hI.size], hI.defers, hI.bel.trans (hb.mono hI.bel.size), by simp [hI.len], fun j oj d2 h1 h2 h3 => ?_, fun d2 h => ?_⟩
        · show Φ j ((a.tmps.setIfInBounds d v).getD d2 undef) w'
          by_cases hji : j = i
          · subst hji
            rw [ho] at h1
            injection h1 with h1
            subst h1
            rw [hd] at h2
            injection h2 with h2
            subst h2
            rw [getD_put (by rw [hI.size]; exact hdl)]
            exact hv
          · have hd2 : d ≠ d2 := fun e => hji (hne j i oj o d2 h1 ho h2 (by rw [hd, e]))
            rw [getD_put_ne hd2]
            refine stab _ _ _ _ (hI.fact j oj d2 h1 h2 ?_) hb
            rw [getD_set_ne false (Ne.symm hji)] at h3
            exact h3
        · show (a.tmps.setIfInBounds d v).getD d2 undef = _
          by_cases hdd : d = d2
          · subst hdd
            have := h i o ho hd
            rw [Array.getD_eq_getD_getElem?] at this
            simp [hsz, hio] at this
          · rw [getD_put_ne hdd]
            refine hI.rest d2 fun j oj h1 h2 => ?_
            have h4 := h j oj h1 h2
            by_cases hji : j = i
            · subst hji
              rw [ho] at h1
              injection h1 with h1
              subst h1
              rw [hd] at h2
              injection h2 with h2
              exact absurd h2 hdd
            · rw [getD_set_ne false (Ne.symm hji)] at h4
              exact h4

  refine wp_region_held_drew (S := fun _ => True) hm trivial fun _ => main _ _ _ _ (by simp) (by simp) ?_
  refine ⟨rfl, rfl, (Below.refl _ _).drew, by simp, fun j oj d h1 h2 h3 => ?_, fun d h => rfl⟩
  have hj := (Array.getElem?_eq_some_iff.1 h1).1
  simp [hj] at h3
end Go.Inv
