/-
  The contract of dev.New: a device of noughts, of new blocks; nil, where there may not be so many sectors.
-/
import Derived.Test.YtpaahbohbnfibaaRead
import Derived.Test.YtpaahbohbnfibaaReg
import Derived.OwnWalk
namespace Go.Proofs.Ytpaahbohbnfibaa
open Go.RowKit Go.Rst Go.Dv

theorem step_make {P : Program} {w : World} {ops : Array Oper} {o : Oper} {a : Act} {K : Act → World → Prop} {Q : Exit → Act → World → Prop} {E : Prop} (hgd : o.guard = none) (l c : Operand) (t : TypeId) (hop : o.op = Op.makeSlice t l c)
    (base : Nat) (e : TypeId) (i : TypeInfo) (z : Value) (size : Nat) (h1 : P.underlying t = some (.slice e)) (h2 : P.info? e = some i) (h3 : i.zero = some z) (h4 : i.size = size)
    (kl kc : IntKind) (L C : Int) (n : Nat) (hl : a.eval l = .int kl L) (hc : a.eval c = .int kc C) (hL : L = (n : Int)) (hC : C = (n : Int)) (b2 : i.bytes * n ≤ 281474976710656) (b3 : n ≤ maxLen) (b4 : base ≤ w.heap.size)
    (hK : ∀ w', w'.ownsRow base e size (.slice (some ⟨w.heap.size, 0, none⟩) n n) n (madeCells z.cells (n * size)).toList → w.grownBy w' none → K (a.put o.dst (.slice (some ⟨w.heap.size, 0, none⟩) n n)) w') :
    if Region.wanted o (yielded ops a.tmps) = true then Oper.wp P o a w K Q else E := by
  have hw : Region.wanted o (yielded ops a.tmps) = true := by simp [Region.wanted, hgd]
  rw [if_pos hw]
  obtain ⟨w', hrun, r1, r2⟩ := run_make_full (P := P) w base t e i z size h1 h2 h3 h4 kl kc n b2 b3 b4
  subst hL
  subst hC
  unfold Oper.wp
  simp [execOp, hop, hl, hc, hrun, Result.andThen]
  exact hK w' r1 r2
theorem gen_alloc {K : World → Prop} {W : World} {o : Obj} (h : ∀ w', w' = W.alloc o → Below W.heap.size W w' → K w') : K (W.alloc o) := h _ rfl ((Below.refl _ _).alloc (Nat.le_refl _) _)
theorem gen_allocD {K : World → Prop} {W : World} {o : Obj} (h : ∀ w', w' = (W.alloc o).drew → Below W.heap.size W w' → K w') : K (W.alloc o).drew := h _ rfl ((Below.refl _ _).alloc (Nat.le_refl _) _).drew
set_option maxRecDepth 100000 in
set_option maxHeartbeats 400000 in
theorem new_no (n : Int) (w : World) (h : n < 0 ∨ 4096 < n) :
    Calls Try.prog 11 #[.int .i64 n] w fun e w' => e = .returned (.pointer none) ∧ w = w' := by
  by_cases h0 : n < 0
  · clear h
    go_enter Try.func11, Try.ntmps11
    go_wp2
    go_ret
    exact ⟨rfl, rfl⟩
  · have h1 : 4096 < n := by omega
    clear h
    go_enter Try.func11, Try.ntmps11
    go_wp2
    go_ret
    exact ⟨rfl, rfl⟩
theorem made_firm (n : Nat) : (madeCells (Value.agg (Array.replicate 64 (.int .u8 0))).cells (n * 64)).toList = fcs (List.replicate n (List.replicate 64 0)) := by
  have hall : ∀ x ∈ List.replicate n (List.replicate 64 (0 : UInt8)), x.length = 64 := fun x hx => by rw [List.eq_of_mem_replicate hx]; simp
  apply List.ext_getElem
  · rw [Array.length_toList, size_madeCells, fcs_length hall]; simp
  · intro j h1 h2
    have hj : j < n * 64 := by rw [Array.length_toList, size_madeCells] at h1; exact h1
    have hb : bvs (List.replicate 64 (0 : UInt8)) = List.replicate 64 (bv 0) := by unfold bvs; rw [List.map_replicate]
    have e := fcs_get hall (i := j / 64) (j := j % 64) (by rw [List.length_replicate]; omega) (Nat.mod_lt _ (by decide))
    rw [show j / 64 * 64 + j % 64 = j from by omega, List.getElem?_eq_getElem h2, List.getElem_replicate, hb, List.getElem?_replicate, if_pos (Nat.mod_lt _ (by decide))] at e
    injection e with e
    rw [e]
    have hz : (Array.replicate 64 (Value.int .u8 0)).size = 64 := by simp
    have hm : j % 64 < 64 := Nat.mod_lt _ (by decide)
    simp only [madeCells, Value.cells, Array.toList_map, List.getElem_map, Array.getElem_toList, Array.getElem_range, hz]
    rw [getElem!_pos _ _ (by rw [hz]; exact hm), Array.getElem_replicate]
    rfl
theorem made_new (n : Nat) : (madeCells (Value.int .i64 0).cells (n * 1)).toList = (List.replicate n 0).map iv := by
  rw [Nat.mul_one]
  have := toList_madeCells_one (.int .i64 0) n
  simpa [iv, Value.cells] using this
theorem new_mk {w w4 : World} {n g gF gN : Nat} (hn : n ≤ 4096) (hF : w4.ownsRow 0 66 64 (.slice (some ⟨gF, 0, none⟩) n n) n (madeCells (Value.agg (Array.replicate 64 (.int .u8 0))).cells (n * 64)).toList)
    (hN : w4.ownsRow 0 3 1 (.slice (some ⟨gN, 0, none⟩) n n) n (madeCells (Value.int .i64 0).cells (n * 1)).toList)
    (hb : Blk w4 g 64 #[.slice (some ⟨gF, 0, none⟩) n n, .slice none 0 0, .slice (some ⟨gN, 0, none⟩) n n, .bool false, .int .i64 0, .complex .f64 0 0])
    (b1 : w.heap.size ≤ gF ∧ gF < w4.heap.size) (b2 : w.heap.size ≤ gN ∧ gN < w4.heap.size) (b3 : w.heap.size ≤ g) (n1 : g ≠ gF) (n2 : g ≠ gN) (n3 : gF ≠ gN) (hs : w.heap.size ≤ w4.heap.size) :
    Own w.heap.size w4 (.pointer (some ⟨g, 0, none⟩)) (Sim.new n) := by
  rw [made_firm] at hF
  rw [made_new] at hN
  refine ⟨fun k => k = g ∨ k = gF ∨ k = gN, ⟨⟨g, gF, gN, n, n, none, 0, 0⟩, rfl, ⟨?_, ?_, World.ownsRow_nil _ _ _ _, ?_, .inl rfl, .inr (.inl rfl), .inr (.inr rfl), fun p hp => (by cases hp), fun k hk => ?_, n1, n2, n3, fun p hp => (by cases hp)⟩, OK.new hn, fun k hk => (by cases hk)⟩, fun k hk => ?_, hs⟩
  · have e : (dcs ⟨g, gF, gN, n, n, none, 0, 0⟩ (Sim.new n).firm.length (Sim.new n).loose.length (newL (Sim.new n).firm.length (Sim.new n).loose).length (Sim.new n).fuse.isSome (Sim.new n).nw (Sim.new n).nf) = #[.slice (some ⟨gF, 0, none⟩) n n, .slice none 0 0, .slice (some ⟨gN, 0, none⟩) n n, .bool false, .int .i64 0, .complex .f64 0 0] := by
      simp only [dcs, newL_length]
      have e1 : (Sim.new n).firm.length = n := by simp [Sim.new]
      rw [e1]
      have e2 : (Sim.new n).nw = 0 := rfl
      have e3 : (Sim.new n).nf = 0 := rfl
      rw [e2, e3, fb_zero]
      rfl
    rw [e]
    exact hb
  · have e1 : (Sim.new n).firm.length = n := by simp [Sim.new]
    rw [e1]
    exact hF
  · have e1 : (Sim.new n).firm.length = n := by simp [Sim.new]
    have e2 : (Sim.new n).loose = [] := rfl
    rw [e1, e2, newL_nil, List.length_replicate]
    exact hN
  · rcases hk with rfl | rfl | rfl
    · exact hb.lt
    · exact b1.2
    · exact b2.2
  · rcases hk with rfl | rfl | rfl
    · exact b3
    · exact b1.1
    · exact b2.1
theorem own_grown {w w' : World} {base : Nat} {e : TypeId} {size : Nat} {v : Value} {n : Nat} {xs : List Value} (h : w.ownsRow base e size v n xs) (hg : w.grownBy w' none) : w'.ownsRow base e size v n xs :=
  own_same h (fun k hk => hg.block k (h.lt k hk).2 (by simp))
set_option maxRecDepth 100000 in
set_option maxHeartbeats 1000000 in
theorem new_any (n : Nat) (w : World) (h : n ≤ 4096) :
    Calls Try.prog 11 #[.int .i64 (n : Int)] w fun e w' => ∃ v, e = .returned v ∧ Own w.heap.size w' v (Sim.new n) ∧ Below w.heap.size w w' := by
  obtain ⟨i66, hi66, hz66, hs66, hb66⟩ := info_parts info66
  obtain ⟨i3, hi3, hz3, hs3, hb3⟩ := info_parts info3
  have HI66 := Lib.hid hi66
  have HZ66 := Lib.hid hz66
  have HS66 := Lib.hid hs66
  have HI3 := Lib.hid hi3
  have HZ3 := Lib.hid hz3
  have HS3 := Lib.hid hs3
  have HB66 := Lib.hid (show i66.bytes * n ≤ 281474976710656 by rw [hb66]; omega)
  have HB3 := Lib.hid (show i3.bytes * n ≤ 281474976710656 by rw [hb3]; omega)
  have HM := Lib.hid (show n ≤ maxLen by unfold maxLen; omega)
  clear hi66 hz66 hs66 hb66 hi3 hz3 hs3 hb3
  have h0 : (n : Int) ≤ 4096 := by omega
  have h1 : (0 : Int) ≤ (n : Int) := by omega
  go_enter Try.func11, Try.ntmps11
  go_wp2
  refine wp_region_held_drew (S := fun X => Below w.heap.size w X) (by kernel_rfl) (Below.refl _ _).drew (fun hHeld => ?_)
  refine wpAnyH_take (i := 0) (oi := { dst := some 9, op := Op.move (Operand.tmp 0), type := 3, pos := "dev.go:34", after := #[], guard := none }) (v := ?_) rfl (by kernel_rfl) (by kernel_rfl) (by kernel_rfl) (fun _ _ _ h => h) (Or.inl ⟨by rfl, ?_⟩) (by assumption) ?_
  rotate_left
  · intro X hSw; go_simp; try (with_reducible rfl)
  try simp only [Act.put, List.setIfInBounds_toArray, List.set_cons_zero, List.set_cons_succ]
  refine wpAnyH_take (i := 2) (oi := { dst := some 11, op := Op.move (Operand.tmp 0), type := 3, pos := "dev.go:34", after := #[], guard := none }) (v := ?_) rfl (by kernel_rfl) (by kernel_rfl) (by kernel_rfl) (fun _ _ _ h => h) (Or.inl ⟨by rfl, ?_⟩) (by assumption) ?_
  rotate_left
  · intro X hSw; go_simp; try (with_reducible rfl)
  try simp only [Act.put, List.setIfInBounds_toArray, List.set_cons_zero, List.set_cons_succ]
  refine wpAnyH_ready (rs := [1, 3]) (by kernel_rfl) (by simp) ?_
  refine AllReadyH.cons (o := { dst := some 10, op := Op.makeSlice 61 (Operand.tmp 9) (Operand.tmp 9), type := 61, pos := "dev.go:34", after := #[{ on := 0, ground := Ground.data }, { on := 0, ground := Ground.data }], guard := none }) rfl (fun K hK => ?_) (AllReadyH.cons (o := { dst := some 12, op := Op.makeSlice 52 (Operand.tmp 11) (Operand.tmp 11), type := 52, pos := "dev.go:34", after := #[{ on := 2, ground := Ground.data }, { on := 2, ground := Ground.data }], guard := none }) rfl (fun K hK => ?_) AllReadyH.nil)
  · refine step_make (by rfl) (.tmp 9) (.tmp 9) 61 (by rfl) 0 66 i66 (.agg (Array.replicate 64 (.int .u8 0))) 64 Try.underlying61 HI66.out HZ66.out HS66.out .i64 .i64 _ _ n (by rfl) (by rfl) rfl rfl HB66.out HM.out (Nat.zero_le _) ?_
    intro wF hownF hgrowF
    have hHeld' := hHeld.grown hgrowF (hHeld.size) (fun k hk => by cases hk)
    refine hK.out _ _ ?_ (fun _ => ?_)
    · exact hHeld'
    clear hK K hHeld
    have hHeld := hHeld'
    clear hHeld'
    try simp only [Act.put, List.setIfInBounds_toArray, List.set_cons_zero, List.set_cons_succ]
    refine wpAnyH_ready (rs := [3]) (by kernel_rfl) (by simp) ?_
    refine AllReadyH.cons (o := { dst := some 12, op := Op.makeSlice 52 (Operand.tmp 11) (Operand.tmp 11), type := 52, pos := "dev.go:34", after := #[{ on := 2, ground := Ground.data }, { on := 2, ground := Ground.data }], guard := none }) rfl (fun K hK => ?_) AllReadyH.nil
    refine step_make (by rfl) (.tmp 11) (.tmp 11) 52 (by rfl) 0 3 i3 (.int .i64 0) 1 Try.underlying52 HI3.out HZ3.out HS3.out .i64 .i64 _ _ n (by rfl) (by rfl) rfl rfl HB3.out HM.out (Nat.zero_le _) ?_
    intro wN hownN hgrowN
    have hHeld' := hHeld.grown hgrowN (hHeld.size) (fun k hk => by cases hk)
    refine hK.out _ _ ?_ (fun _ => ?_)
    · exact hHeld'
    clear hK K hHeld
    have hHeld := hHeld'
    clear hHeld'
    try simp only [Act.put, List.setIfInBounds_toArray, List.set_cons_zero, List.set_cons_succ]
    refine wpAnyH_take (i := 4) (oi := { dst := some 13, op := Op.build 64 #[(0, Operand.tmp 10), (2, Operand.tmp 12)], type := 64, pos := "dev.go:34", after := #[{ on := 1, ground := Ground.data }, { on := 3, ground := Ground.data }], guard := none }) (v := ?_) rfl (by kernel_rfl) (by kernel_rfl) (by kernel_rfl) (fun _ _ _ h => h) (Or.inl ⟨by rfl, ?_⟩) (by assumption) ?_
    rotate_left
    · intro X hSw; go_simp; try (with_reducible rfl)
    try simp only [Act.put, List.setIfInBounds_toArray, List.set_cons_zero, List.set_cons_succ]
    refine wpAnyH_ready (rs := [5]) (by kernel_rfl) (by simp) ?_
    refine AllReadyH.cons (o := { dst := some 14, op := Op.box 64 (Operand.tmp 13), type := 23, pos := "dev.go:34", after := #[{ on := 4, ground := Ground.data }], guard := none }) rfl (fun K hK => ?_) AllReadyH.nil
    go_simp
    refine gen_alloc ?_
    intro w4 hw4 hbw4
    try (go_wp2_with fail)
    have hHeld' := hHeld.trans (hbw4.mono hHeld.size)
    refine hK.out _ _ ?_ (fun _ => ?_)
    · exact hHeld'
    clear hK K hHeld
    have hHeld := hHeld'
    clear hHeld'
    try simp only [Act.put, List.setIfInBounds_toArray, List.set_cons_zero, List.set_cons_succ]
    refine wpAnyH_take (i := 6) (oi := { dst := some 2, op := Op.assign (Operand.tmp 14), type := 23, pos := "dev.go:34", after := #[{ on := 5, ground := Ground.data }, { on := 0, ground := Ground.phase }, { on := 1, ground := Ground.phase }, { on := 2, ground := Ground.phase }, { on := 3, ground := Ground.phase }, { on := 4, ground := Ground.phase }, { on := 5, ground := Ground.phase }], guard := none }) (v := ?_) rfl (by kernel_rfl) (by kernel_rfl) (by kernel_rfl) (fun _ _ _ h => h) (Or.inl ⟨by rfl, ?_⟩) (by assumption) ?_
    rotate_left
    · intro X hSw; go_simp; try (with_reducible rfl)
    try simp only [Act.put, List.setIfInBounds_toArray, List.set_cons_zero, List.set_cons_succ]
    refine wpAnyH_done (by kernel_rfl) ?_ _
    have HH := Lib.hid hHeld
    have HOF := Lib.hid hownF
    have HON := Lib.hid hownN
    have HGF := Lib.hid hgrowF
    have HGN := Lib.hid hgrowN
    have HW4 := Lib.hid hw4
    clear hHeld hownF hownN hgrowF hgrowN hw4 hbw4
    go_wp2
    go_ret
    have hs1 := HGF.out.size
    have hs2 := HGN.out.size
    have l1 : w.heap.size < wF.heap.size := (HOF.out.lt _ rfl).2
    have l2 : wF.heap.size < wN.heap.size := (HON.out.lt _ rfl).2
    have hd : w.drew.heap.size = w.heap.size := rfl
    have e4 : w4.heap.size = wN.heap.size + 1 := by rw [HW4.out]; simp
    exact ⟨_, rfl, new_mk (w := w) h (by rw [HW4.out]; exact (own_grown HOF.out HGN.out).alloc _) (by rw [HW4.out]; exact HON.out.alloc _) (by rw [HW4.out]; exact heap_alloc_new wN _) ⟨Nat.le_refl _, by rw [e4]; omega⟩ ⟨by omega, by rw [e4]; omega⟩ (by omega) (by omega) (by omega) (by omega) (by rw [e4]; omega), HH.out⟩
  · refine step_make (by rfl) (.tmp 11) (.tmp 11) 52 (by rfl) 0 3 i3 (.int .i64 0) 1 Try.underlying52 HI3.out HZ3.out HS3.out .i64 .i64 _ _ n (by rfl) (by rfl) rfl rfl HB3.out HM.out (Nat.zero_le _) ?_
    intro wN hownN hgrowN
    have hHeld' := hHeld.grown hgrowN (hHeld.size) (fun k hk => by cases hk)
    refine hK.out _ _ ?_ (fun _ => ?_)
    · exact hHeld'
    clear hK K hHeld
    have hHeld := hHeld'
    clear hHeld'
    try simp only [Act.put, List.setIfInBounds_toArray, List.set_cons_zero, List.set_cons_succ]
    refine wpAnyH_ready (rs := [1]) (by kernel_rfl) (by simp) ?_
    refine AllReadyH.cons (o := { dst := some 10, op := Op.makeSlice 61 (Operand.tmp 9) (Operand.tmp 9), type := 61, pos := "dev.go:34", after := #[{ on := 0, ground := Ground.data }, { on := 0, ground := Ground.data }], guard := none }) rfl (fun K hK => ?_) AllReadyH.nil
    refine step_make (by rfl) (.tmp 9) (.tmp 9) 61 (by rfl) 0 66 i66 (.agg (Array.replicate 64 (.int .u8 0))) 64 Try.underlying61 HI66.out HZ66.out HS66.out .i64 .i64 _ _ n (by rfl) (by rfl) rfl rfl HB66.out HM.out (Nat.zero_le _) ?_
    intro wF hownF hgrowF
    have hHeld' := hHeld.grown hgrowF (hHeld.size) (fun k hk => by cases hk)
    refine hK.out _ _ ?_ (fun _ => ?_)
    · exact hHeld'
    clear hK K hHeld
    have hHeld := hHeld'
    clear hHeld'
    try simp only [Act.put, List.setIfInBounds_toArray, List.set_cons_zero, List.set_cons_succ]
    refine wpAnyH_take (i := 4) (oi := { dst := some 13, op := Op.build 64 #[(0, Operand.tmp 10), (2, Operand.tmp 12)], type := 64, pos := "dev.go:34", after := #[{ on := 1, ground := Ground.data }, { on := 3, ground := Ground.data }], guard := none }) (v := ?_) rfl (by kernel_rfl) (by kernel_rfl) (by kernel_rfl) (fun _ _ _ h => h) (Or.inl ⟨by rfl, ?_⟩) (by assumption) ?_
    rotate_left
    · intro X hSw; go_simp; try (with_reducible rfl)
    try simp only [Act.put, List.setIfInBounds_toArray, List.set_cons_zero, List.set_cons_succ]
    refine wpAnyH_ready (rs := [5]) (by kernel_rfl) (by simp) ?_
    refine AllReadyH.cons (o := { dst := some 14, op := Op.box 64 (Operand.tmp 13), type := 23, pos := "dev.go:34", after := #[{ on := 4, ground := Ground.data }], guard := none }) rfl (fun K hK => ?_) AllReadyH.nil
    go_simp
    refine gen_alloc ?_
    intro w4 hw4 hbw4
    try (go_wp2_with fail)
    have hHeld' := hHeld.trans (hbw4.mono hHeld.size)
    refine hK.out _ _ ?_ (fun _ => ?_)
    · exact hHeld'
    clear hK K hHeld
    have hHeld := hHeld'
    clear hHeld'
    try simp only [Act.put, List.setIfInBounds_toArray, List.set_cons_zero, List.set_cons_succ]
    refine wpAnyH_take (i := 6) (oi := { dst := some 2, op := Op.assign (Operand.tmp 14), type := 23, pos := "dev.go:34", after := #[{ on := 5, ground := Ground.data }, { on := 0, ground := Ground.phase }, { on := 1, ground := Ground.phase }, { on := 2, ground := Ground.phase }, { on := 3, ground := Ground.phase }, { on := 4, ground := Ground.phase }, { on := 5, ground := Ground.phase }], guard := none }) (v := ?_) rfl (by kernel_rfl) (by kernel_rfl) (by kernel_rfl) (fun _ _ _ h => h) (Or.inl ⟨by rfl, ?_⟩) (by assumption) ?_
    rotate_left
    · intro X hSw; go_simp; try (with_reducible rfl)
    try simp only [Act.put, List.setIfInBounds_toArray, List.set_cons_zero, List.set_cons_succ]
    refine wpAnyH_done (by kernel_rfl) ?_ _
    have HH := Lib.hid hHeld
    have HOF := Lib.hid hownF
    have HON := Lib.hid hownN
    have HGF := Lib.hid hgrowF
    have HGN := Lib.hid hgrowN
    have HW4 := Lib.hid hw4
    clear hHeld hownF hownN hgrowF hgrowN hw4 hbw4
    go_wp2
    go_ret
    have hs1 := HGF.out.size
    have hs2 := HGN.out.size
    have l1 : wN.heap.size < wF.heap.size := (HOF.out.lt _ rfl).2
    have l2 : w.heap.size < wN.heap.size := (HON.out.lt _ rfl).2
    have hd : w.drew.heap.size = w.heap.size := rfl
    have e4 : w4.heap.size = wF.heap.size + 1 := by rw [HW4.out]; simp
    exact ⟨_, rfl, new_mk (w := w) h (by rw [HW4.out]; exact HOF.out.alloc _) (by rw [HW4.out]; exact (own_grown HON.out HGF.out).alloc _) (by rw [HW4.out]; exact heap_alloc_new wF _) ⟨by omega, by rw [e4]; omega⟩ ⟨Nat.le_refl _, by rw [e4]; omega⟩ (by omega) (by omega) (by omega) (by omega) (by rw [e4]; omega), HH.out⟩
end Go.Proofs.Ytpaahbohbnfibaa
