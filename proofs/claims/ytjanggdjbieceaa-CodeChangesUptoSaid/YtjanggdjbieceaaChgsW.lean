/-
  CodeChanges returns true, and changes nothing that was there, for all changes and bytes whose sizes are a machine's.
-/
import Derived.Test.YtjanggdjbieceaaPutsW
import Derived.Test.YtjanggdjbieceaaRefC2
import Derived.Test.YtjanggdjbieceaaCList
import Derived.Test.YtjanggdjbieceaaOneW
import Derived.Test.YtjanggdjbieceaaSameC
import Derived.Test.YtjanggdjbieceaaReads
import Derived.Test.YtjanggdjbieceaaBend
namespace Go.Proofs.Ytjanggdjbieceaa
open Go.RowKit Go.Rst

def sizesC (rs : List Chg) : Nat := (rs.map fun r => r.1.size + r.2.1.length).sum
def totC (rs : List Chg) : Nat := rs.length + sizesC rs
theorem sizesC_take {rs : List Chg} {k : Nat} (h : k < rs.length) : sizesC (rs.take (k + 1)) = sizesC (rs.take k) + (rs[k].1.size + rs[k].2.1.length) := by
  unfold sizesC
  rw [List.take_succ_eq_append_getElem h]
  simp only [List.map_append, List.sum_append, List.map_cons, List.map_nil, List.sum_cons, List.sum_nil, Nat.add_zero]
theorem sizesC_le (rs : List Chg) (k : Nat) : sizesC (rs.take k) ≤ sizesC rs := by
  conv => rhs; rw [← List.take_append_drop k rs]
  unfold sizesC
  rw [List.map_append, List.sum_append]
  omega
theorem chgL_few (c : Chg) (h1 : c.1.size ≤ 1000000000) (h2 : c.2.1.length ≤ 1000000000) : (chgL c).length ≤ 18 + (c.1.size + c.2.1.length) := by
  have h3 := size_list c.1
  have h4 := numL_len8 (n := c.1.data.toList.length) (by omega)
  have h5 := numL_len8 (n := c.2.1.length) (by omega)
  unfold chgL textL
  split <;> simp only [List.length_append, List.length_cons, List.length_nil] <;> omega
theorem chgsB_few : ∀ (rs : List Chg), sizesC rs ≤ 90000 → (chgsB rs).length ≤ 18 * rs.length + sizesC rs ∧ ∀ r ∈ rs, r.2.1.length ≤ 1000000000
  | [], _ => by simp [chgsB, sizesC]
  | r :: rs, h => by
    have e : sizesC (r :: rs) = r.1.size + r.2.1.length + sizesC rs := by simp [sizesC]
    obtain ⟨ih, ih2⟩ := chgsB_few rs (by omega)
    have h2 := chgL_few r (by omega) (by omega)
    have e2 : chgsB (r :: rs) = chgL r ++ chgsB rs := by unfold chgsB; rw [List.flatMap_cons]
    refine ⟨?_, fun x hx => ?_⟩
    · rw [e2, e, List.length_append, List.length_cons]
      omega
    · rcases List.mem_cons.1 hx with rfl | hx
      · omega
      · exact ih2 x hx
theorem chgs_few {rs : List Chg} (h1 : rs.length ≤ 4000) (h2 : sizesC rs ≤ 20000) : ChgsOf rs (chgsL rs) := by
  obtain ⟨a, b⟩ := chgsB_few rs (by omega)
  exact ⟨rfl, by omega, by omega, b⟩
theorem refChanges_as {rs : List Chg} {l : List UInt8} (h : ChgsOf rs l) {v : Value} (w : World) (hv : RC w v rs) : Calls Try.prog 24 #[v] w (NewB 5 w l) := by
  have h1 := refChanges_any v rs (by have := h.len; omega) (by have := h.n; omega) w hv
  rw [h.eq] at h1
  exact h1
def madeC (c : List UInt8) : List Chg := (rowsAt c (nrows c 8)).map chgOf
theorem madeC_sizes (c : List UInt8) : ∀ k, sizesC ((rowsAt c k).map chgOf) ≤ 200 * k
  | 0 => by simp [rowsAt, sizesC]
  | k + 1 => by
    have ih := madeC_sizes c k
    rw [rowsAt_succ, List.map_append]
    unfold sizesC at ih ⊢
    rw [List.map_append, List.sum_append]
    have h1 : rlen (c.getD (2 * k) 0) (c.getD (2 * k + 1) 0) ≤ 150 := by unfold rlen; split <;> omega
    have h2 : ((chgOf (rowOf (c.getD (2 * k) 0) (c.getD (2 * k + 1) 0))).1.size + (chgOf (rowOf (c.getD (2 * k) 0) (c.getD (2 * k + 1) 0))).2.1.length) ≤ 152 := by
      unfold chgOf
      have h3 : (rowOf (c.getD (2 * k) 0) (c.getD (2 * k + 1) 0)).1.size = 2 := rfl
      have h4 : (rowOf (c.getD (2 * k) 0) (c.getD (2 * k + 1) 0)).2.length ≤ 150 := by unfold rowOf; simp only [fill_length]; exact h1
      split
      · simp only [List.length_nil]; omega
      · simp only; omega
    simp only [List.map_cons, List.map_nil, List.sum_cons, List.sum_nil]
    omega
theorem made_chgs (c : List UInt8) : ChgsOf (madeC c) (chgsL (madeC c)) := by
  have h1 := madeC_sizes c (nrows c 8)
  have h2 := nrows_le c 8
  refine chgs_few ?_ ?_
  · unfold madeC; rw [List.length_map, rowsAt_length]; omega
  · unfold madeC; omega
theorem made_chgs_len (c : List UInt8) : (chgsL (madeC c)).length ≤ 1000000000 := by
  have h := made_chgs c
  have h1 := h.len
  have h2 := h.n
  have h3 := numL_len8 (n := (madeC c).length) (by omega)
  unfold chgsL
  rw [List.length_append]
  omega
theorem changeList_8 (v : Value) (c : List UInt8) (w : World) (hv : RB w v c) (hl : c.length ≤ 140737488351232) : Calls Try.prog 25 #[v, .int .i64 8] w (GivesCL w (madeC c)) := changeList_any v c 8 (by decide) w hv hl

set_option maxRecDepth 100000 in
set_option maxHeartbeats 8000000 in
theorem chgs_walk (vl : Value) (rs : List Chg) (vb : Value) (l : List UInt8) (vc : Value) (c : List UInt8) (k : Nat) (d : UInt8) (h : Nat) (w : World)
    (hl : RC w vl rs) (hb : RB w vb l) (ht : totC rs + l.length ≤ 4000000) (hc : RB w vc c) (hcl : c.length ≤ 140737488351232) (hk : k ≤ 65535) (hh : h ≤ 255) :
    Calls Try.prog 7 #[vl, vb, vc, .int .u16 k, .int .u8 (d.toNat : Int), .int .u8 h] w fun e w' => e = .returned (.bool true) ∧ Below w.heap.size w w' := by
  have HA := Lib.hid hl
  have HV0 := Lib.hid hb
  have HC0 := Lib.hid hc
  obtain ⟨A, cA, rfl, h1, h2, _⟩ := hl
  obtain ⟨A', cA', rfl, h1', h2', _⟩ := hb
  obtain ⟨A'', cA'', rfl, h1'', h2'', _⟩ := hc
  simp only [maxLen] at h2 h2' h2''
  have hd := d.toNat_lt
  have ht' : rs.length + sizesC rs + l.length ≤ 4000000 := ht
  clear ht
  have w0 : IntKind.i64.wrap ((rs.length : Int) + (l.length : Int)) = (rs.length : Int) + (l.length : Int) := by rw [IntKind.wrap_i64]; omega
  go_enter Try.func7, Try.ntmps7
  go_wp2
  clear w0
  go_loopw [13, 14] (fun n i wr => ∃ j : Nat, j ≤ rs.length ∧ i = .int .i64 j ∧ n = .int .i64 ((rs.length + l.length + sizesC (rs.take j) : Nat) : Int) ∧ ∃ m, wr = w.drewN m) (fun _ i _ => rs.length - (intOf i).toNat)
  case atStart => exact ⟨0, Nat.zero_le _, rfl, rfl, 0, rfl⟩
  case round =>
    obtain ⟨j, hj, rfl, rfl, m, rfl⟩ := hrel
    by_cases hlt : j < rs.length
    · obtain ⟨b1, o1, u1, rfl, hx1, hy1, hr1, _⟩ := rc_at HA.out hlt
      have hs := sizesC_take hlt
      have hle := sizesC_le rs (j + 1)
      rw [hs] at hle
      obtain ⟨A2, c2, rfl, _⟩ := hr1
      generalize rs[j] = r at *
      generalize sizesC (rs.take j) = S at *
      have HS := Lib.hid hs
      have b1 : (0 : Int) ≤ (j : Int) := by omega
      have b2 : (j : Int) < (rs.length : Int) := by omega
      have w1 : IntKind.i64.wrap ((r.1.size : Int) + (r.2.1.length : Int)) = (r.1.size : Int) + (r.2.1.length : Int) := by rw [IntKind.wrap_i64]; omega
      have w2 : IntKind.i64.wrap ((rs.length : Int) + (l.length : Int) + (S : Int) + ((r.1.size : Int) + (r.2.1.length : Int))) = (rs.length : Int) + (l.length : Int) + (S : Int) + ((r.1.size : Int) + (r.2.1.length : Int)) := by rw [IntKind.wrap_i64]; omega
      clear hs hle
      go_wp2
      go_quiet (fail)
      clear w1 w2
      go_wp2
      go_roundw
      case rel => exact ⟨j + 1, by omega, by go_num, by rw [HS.out]; go_num, _, rfl⟩
      case measure => simp [intOf]; omega
    · have e : j = rs.length := by omega
      rw [e, List.take_length]
      clear e hlt hj
      by_cases hbig : 1500 < rs.length + l.length + sizesC rs
      · have hb : (1500 : Int) < (rs.length : Int) + (l.length : Int) + (sizesC rs : Int) := by omega
        go_wp2_with fail
        refine (known_any _).mono ?_
        rintro e w1 ⟨rfl, hb1⟩
        have HB1 := Lib.hid ((bel_drewN (B := w.heap.size) (w := w) (n := m)).trans (hb1.mono (bel_drewN (B := w.heap.size) (w := w) (n := m)).size))
        clear hb1
        go_wp2
        go_ret
        exact ⟨rfl, HB1.out⟩
      · have hb : ¬ (1500 : Int) < (rs.length : Int) + (l.length : Int) + (sizesC rs : Int) := by omega
        have HCF := Lib.hid (chgs_few (rs := rs) (by omega) (by omega))
        go_wp2_with fail
        refine (known_any _).mono ?_
        rintro e w1 ⟨rfl, hb1⟩
        have HB1 := Lib.hid ((bel_drewN (B := w.heap.size) (w := w) (n := m)).trans (hb1.mono (bel_drewN (B := w.heap.size) (w := w) (n := m)).size))
        clear hb1
        go_wp2_with fail
        refine (changeList_8 _ c _ (HC0.out.below HB1.out) hcl).mono ?_
        rintro e w2 ⟨v2, rfl, hoc, hb2⟩
        have HB2 := Lib.hid (HB1.out.trans (hb2.mono HB1.out.size))
        have HM2 := Lib.hid hoc.rc
        clear hoc hb2 HB1
        go_wp2_with fail
        refine (refChanges_as (made_chgs c) _ HM2.out).mono ?_
        rintro e w3 ⟨v3, rfl, hown3, hb3⟩
        obtain ⟨wr, hwr⟩ : ∃ x, x = w3 := ⟨_, rfl⟩
        rw [← hwr] at hown3 hb3 ⊢
        clear hwr
        have HB := Lib.hid (HB2.out.trans (hb3.mono HB2.out.size))
        have HX := Lib.hid (RB.own hown3)
        have HL := Lib.hid (rc_below HA.out HB.out)
        have HV := Lib.hid (HV0.out.below HB.out)
        have HC := Lib.hid (HC0.out.below HB.out)
        clear hown3 hb3 HB2 HM2
        go_wp2
        refine wp_region_held_drew (S := SB [wr]) (by kernel_rfl) (SB.start _) (fun hHeld => ?_)
        refine wpAnyH_take (i := 0) (oi := { dst := some 52, op := Op.move (Operand.tmp 0), type := 24, pos := "law.go:92", after := #[], guard := none }) (v := ?_) rfl (by kernel_rfl) (by kernel_rfl) (by kernel_rfl) (fun _ _ _ h => h) (Or.inl ⟨by rfl, ?_⟩) (by assumption) ?_
        rotate_left
        · intro W hSw; go_simp; try (with_reducible rfl)
        try simp only [Act.put, List.setIfInBounds_toArray, List.set_cons_zero, List.set_cons_succ]
        refine wpAnyH_take (i := 3) (oi := { dst := some 55, op := Op.move (Operand.tmp 0), type := 24, pos := "law.go:92", after := #[], guard := none }) (v := ?_) rfl (by kernel_rfl) (by kernel_rfl) (by kernel_rfl) (fun _ _ _ h => h) (Or.inl ⟨by rfl, ?_⟩) (by assumption) ?_
        rotate_left
        · intro W hSw; go_simp; try (with_reducible rfl)
        try simp only [Act.put, List.setIfInBounds_toArray, List.set_cons_zero, List.set_cons_succ]
        refine wpAnyH_ready (rs := [1]) (by kernel_rfl) (by simp) ?_
        refine AllReadyH.cons (o := { dst := some 53, op := Op.call { callee := Callee.value (Operand.func 26), args := #[Operand.tmp 52], argTypes := #[24] }, type := 22, pos := "law.go:92", after := #[{ on := 0, ground := Ground.data }], guard := none }) rfl (fun K hK => ?_) AllReadyH.nil
        go_simp
        refine (changes_as HCF.out _ (rc_below HL.out (SB.b0 hHeld))).mono ?_
        rintro x w1 ⟨v1, rfl, hown1, hbw1⟩
        try (go_wp2_with fail)
        have hHeld' := SB.step hHeld hbw1
        refine hK.out _ _ ?_ (fun _ => ?_)
        · exact hHeld'
        clear hK K
        try simp only [Act.put, List.setIfInBounds_toArray, List.set_cons_zero, List.set_cons_succ]
        have hHeld := SB.more hHeld'
        clear hHeld'
        refine wpAnyH_more (S' := SB [w1, wr]) (fun W h => SB.less W h) _ _ _ _ ?_
        refine wpAnyH_take (i := 2) (oi := { dst := some 54, op := Op.convert 22 9 (Operand.tmp 53), type := 9, pos := "law.go:92", after := #[{ on := 1, ground := Ground.data }], guard := none }) (v := ?_) rfl (by kernel_rfl) (by kernel_rfl) (by kernel_rfl) (fun _ _ _ h => h) (Or.inl ⟨by rfl, ?_⟩) (by assumption) ?_
        rotate_left
        · intro W hSw; have hq := str22 ((RB.own hown1).below (SB.b0 hSw)); go_simp; try (with_reducible rfl)
        try simp only [Act.put, List.setIfInBounds_toArray, List.set_cons_zero, List.set_cons_succ]
        refine wpAnyH_ready (rs := [4]) (by kernel_rfl) (by simp) ?_
        refine AllReadyH.cons (o := { dst := some 56, op := Op.call { callee := Callee.value (Operand.func 24), args := #[Operand.tmp 55], argTypes := #[24] }, type := 22, pos := "law.go:92", after := #[{ on := 3, ground := Ground.data }, { on := 1, ground := Ground.chain }], guard := none }) rfl (fun K hK => ?_) AllReadyH.nil
        go_simp
        refine (refChanges_as HCF.out _ (rc_below HL.out (SB.b1 hHeld))).mono ?_
        rintro x w2 ⟨v2, rfl, hown2, hbw2⟩
        try (go_wp2_with fail)
        have hHeld' := SB.step hHeld hbw2
        refine hK.out _ _ ?_ (fun _ => ?_)
        · exact hHeld'
        clear hK K
        try simp only [Act.put, List.setIfInBounds_toArray, List.set_cons_zero, List.set_cons_succ]
        have hHeld := SB.more hHeld'
        clear hHeld'
        refine wpAnyH_more (S' := SB [w2, w1, wr]) (fun W h => SB.less W h) _ _ _ _ ?_
        refine wpAnyH_take (i := 5) (oi := { dst := some 57, op := Op.convert 22 9 (Operand.tmp 56), type := 9, pos := "law.go:92", after := #[{ on := 4, ground := Ground.data }], guard := none }) (v := ?_) rfl (by kernel_rfl) (by kernel_rfl) (by kernel_rfl) (fun _ _ _ h => h) (Or.inl ⟨by rfl, ?_⟩) (by assumption) ?_
        rotate_left
        · intro W hSw; have hq := str22 ((RB.own hown2).below (SB.b0 hSw)); go_simp; try (with_reducible rfl)
        try simp only [Act.put, List.setIfInBounds_toArray, List.set_cons_zero, List.set_cons_succ]
        refine wpAnyH_take (i := 6) (oi := { dst := some 58, op := Op.binOp BinOp.eql 9 (Operand.tmp 54) (Operand.tmp 57) 9, type := 4, pos := "law.go:92", after := #[{ on := 2, ground := Ground.data }, { on := 5, ground := Ground.data }], guard := none }) (v := ?_) rfl (by kernel_rfl) (by kernel_rfl) (by kernel_rfl) (fun _ _ _ h => h) (Or.inl ⟨by rfl, ?_⟩) (by assumption) ?_
        rotate_left
        · intro W hSw; go_simp; try (with_reducible rfl)
        try simp only [Act.put, List.setIfInBounds_toArray, List.set_cons_zero, List.set_cons_succ]
        refine wpAnyH_take (i := 7) (oi := { dst := some 59, op := Op.move (Operand.tmp 58), type := 4, pos := "law.go:92", after := #[{ on := 6, ground := Ground.data }, { on := 4, ground := Ground.chain }], guard := none }) (v := ?_) rfl (by kernel_rfl) (by kernel_rfl) (by kernel_rfl) (fun _ _ _ h => h) (Or.inl ⟨by rfl, ?_⟩) (by assumption) ?_
        rotate_left
        · intro W hSw; go_simp; try (with_reducible rfl)
        try simp only [Act.put, List.setIfInBounds_toArray, List.set_cons_zero, List.set_cons_succ]
        refine wpAnyH_take (i := 8) (oi := { dst := some 60, op := Op.move (Operand.tmp 2), type := 22, pos := "law.go:92", after := #[{ on := 7, ground := Ground.guard }], guard := some (7, true) }) (v := ?_) rfl (by kernel_rfl) (by kernel_rfl) (by kernel_rfl) (fun _ _ _ h => h) (Or.inl ⟨by rfl, ?_⟩) (by assumption) ?_
        rotate_left
        · intro W hSw; go_simp; try (with_reducible rfl)
        try simp only [Act.put, List.setIfInBounds_toArray, List.set_cons_zero, List.set_cons_succ]
        refine wpAnyH_take (i := 12) (oi := { dst := some 64, op := Op.move (Operand.tmp 15), type := 22, pos := "law.go:92", after := #[{ on := 7, ground := Ground.guard }], guard := some (7, true) }) (v := ?_) rfl (by kernel_rfl) (by kernel_rfl) (by kernel_rfl) (fun _ _ _ h => h) (Or.inl ⟨by rfl, ?_⟩) (by assumption) ?_
        rotate_left
        · intro W hSw; go_simp; try (with_reducible rfl)
        try simp only [Act.put, List.setIfInBounds_toArray, List.set_cons_zero, List.set_cons_succ]
        refine wpAnyH_take (i := 13) (oi := { dst := some 65, op := Op.convert 22 9 (Operand.tmp 64), type := 9, pos := "law.go:92", after := #[{ on := 12, ground := Ground.data }, { on := 7, ground := Ground.guard }], guard := some (7, true) }) (v := ?_) rfl (by kernel_rfl) (by kernel_rfl) (by kernel_rfl) (fun _ _ _ h => h) (Or.inl ⟨by rfl, ?_⟩) (by assumption) ?_
        rotate_left
        · intro W hSw; have hq := str22 (HX.out.below (SB.b2 hSw)); go_simp; try (with_reducible rfl)
        try simp only [Act.put, List.setIfInBounds_toArray, List.set_cons_zero, List.set_cons_succ]
        refine wpAnyH_ready (rs := [9]) (by kernel_rfl) (by simp) ?_
        refine AllReadyH.cons (o := { dst := some 61, op := Op.call { callee := Callee.value (Operand.func 25), args := #[Operand.tmp 60, Operand.const (Value.int IntKind.i64 8)], argTypes := #[22, 3] }, type := 24, pos := "law.go:92", after := #[{ on := 8, ground := Ground.data }, { on := 7, ground := Ground.chain }, { on := 7, ground := Ground.guard }], guard := some (7, true) }) rfl (fun K hK => ?_) AllReadyH.nil
        go_simp
        refine (changeList_8 _ c _ (HC.out.below (SB.b2 hHeld)) hcl).mono ?_
        rintro x w3 ⟨v3, rfl, hoc3, hbw3⟩
        try (go_wp2_with fail)
        have hHeld' := SB.step hHeld hbw3
        refine hK.out _ _ ?_ (fun _ => ?_)
        · exact hHeld'
        clear hK K
        try simp only [Act.put, List.setIfInBounds_toArray, List.set_cons_zero, List.set_cons_succ]
        have hHeld := SB.more hHeld'
        clear hHeld'
        refine wpAnyH_more (S' := SB [w3, w2, w1, wr]) (fun W h => SB.less W h) _ _ _ _ ?_
        refine wpAnyH_ready (rs := [10]) (by kernel_rfl) (by simp) ?_
        refine AllReadyH.cons (o := { dst := some 62, op := Op.call { callee := Callee.value (Operand.func 26), args := #[Operand.tmp 61], argTypes := #[24] }, type := 22, pos := "law.go:92", after := #[{ on := 9, ground := Ground.data }, { on := 9, ground := Ground.chain }, { on := 7, ground := Ground.guard }], guard := some (7, true) }) rfl (fun K hK => ?_) AllReadyH.nil
        go_simp
        refine (changes_as (made_chgs c) _ (rc_below hoc3.rc (SB.b0 hHeld))).mono ?_
        rintro x w4 ⟨v4, rfl, hown4, hbw4⟩
        try (go_wp2_with fail)
        have hHeld' := SB.step hHeld hbw4
        refine hK.out _ _ ?_ (fun _ => ?_)
        · exact hHeld'
        clear hK K
        try simp only [Act.put, List.setIfInBounds_toArray, List.set_cons_zero, List.set_cons_succ]
        have hHeld := SB.more hHeld'
        clear hHeld'
        refine wpAnyH_more (S' := SB [w4, w3, w2, w1, wr]) (fun W h => SB.less W h) _ _ _ _ ?_
        refine wpAnyH_take (i := 11) (oi := { dst := some 63, op := Op.convert 22 9 (Operand.tmp 62), type := 9, pos := "law.go:92", after := #[{ on := 10, ground := Ground.data }, { on := 7, ground := Ground.guard }], guard := some (7, true) }) (v := ?_) rfl (by kernel_rfl) (by kernel_rfl) (by kernel_rfl) (fun _ _ _ h => h) (Or.inl ⟨by rfl, ?_⟩) (by assumption) ?_
        rotate_left
        · intro W hSw; have hq := str22 ((RB.own hown4).below (SB.b0 hSw)); go_simp; try (with_reducible rfl)
        try simp only [Act.put, List.setIfInBounds_toArray, List.set_cons_zero, List.set_cons_succ]
        refine wpAnyH_take (i := 14) (oi := { dst := some 66, op := Op.binOp BinOp.eql 9 (Operand.tmp 63) (Operand.tmp 65) 9, type := 4, pos := "law.go:92", after := #[{ on := 11, ground := Ground.data }, { on := 13, ground := Ground.data }, { on := 7, ground := Ground.guard }], guard := some (7, true) }) (v := ?_) rfl (by kernel_rfl) (by kernel_rfl) (by kernel_rfl) (fun _ _ _ h => h) (Or.inl ⟨by rfl, ?_⟩) (by assumption) ?_
        rotate_left
        · intro W hSw; go_simp; try (with_reducible rfl)
        try simp only [Act.put, List.setIfInBounds_toArray, List.set_cons_zero, List.set_cons_succ]
        refine wpAnyH_take (i := 15) (oi := { dst := some 67, op := Op.pick (Operand.tmp 59) (Operand.tmp 66) (Operand.const (Value.bool false)), type := 4, pos := "law.go:92", after := #[{ on := 7, ground := Ground.data }, { on := 14, ground := Ground.data }], guard := none }) (v := ?_) rfl (by kernel_rfl) (by kernel_rfl) (by kernel_rfl) (fun _ _ _ h => h) (Or.inl ⟨by rfl, ?_⟩) (by assumption) ?_
        rotate_left
        · intro W hSw; go_simp; try (with_reducible rfl)
        try simp only [Act.put, List.setIfInBounds_toArray, List.set_cons_zero, List.set_cons_succ]
        refine wpAnyH_take (i := 16) (oi := { dst := some 68, op := Op.move (Operand.tmp 67), type := 4, pos := "law.go:92", after := #[{ on := 15, ground := Ground.data }, { on := 10, ground := Ground.chain }], guard := none }) (v := ?_) rfl (by kernel_rfl) (by kernel_rfl) (by kernel_rfl) (fun _ _ _ h => h) (Or.inl ⟨by rfl, ?_⟩) (by assumption) ?_
        rotate_left
        · intro W hSw; go_simp; try (with_reducible rfl)
        try simp only [Act.put, List.setIfInBounds_toArray, List.set_cons_zero, List.set_cons_succ]
        refine wpAnyH_take (i := 17) (oi := { dst := some 69, op := Op.move (Operand.tmp 1), type := 22, pos := "law.go:92", after := #[{ on := 16, ground := Ground.guard }], guard := some (16, true) }) (v := ?_) rfl (by kernel_rfl) (by kernel_rfl) (by kernel_rfl) (fun _ _ _ h => h) (Or.inl ⟨by rfl, ?_⟩) (by assumption) ?_
        rotate_left
        · intro W hSw; go_simp; try (with_reducible rfl)
        try simp only [Act.put, List.setIfInBounds_toArray, List.set_cons_zero, List.set_cons_succ]
        refine wpAnyH_ready (rs := [18]) (by kernel_rfl) (by simp) ?_
        refine AllReadyH.cons (o := { dst := some 70, op := Op.call { callee := Callee.value (Operand.func 27), args := #[Operand.tmp 69], argTypes := #[22] }, type := 4, pos := "law.go:92", after := #[{ on := 17, ground := Ground.data }, { on := 16, ground := Ground.chain }, { on := 16, ground := Ground.guard }], guard := some (16, true) }) rfl (fun K hK => ?_) AllReadyH.nil
        go_simp
        refine (reads_any _ l _ (HV.out.below (SB.b4 hHeld))).mono ?_
        rintro x w5 ⟨rfl, hbw5⟩
        try (go_wp2_with fail)
        have hHeld' := SB.step hHeld hbw5
        refine hK.out _ _ ?_ (fun _ => ?_)
        · exact hHeld'
        clear hK K
        try simp only [Act.put, List.setIfInBounds_toArray, List.set_cons_zero, List.set_cons_succ]
        have hHeld := SB.more hHeld'
        clear hHeld'
        refine wpAnyH_more (S' := SB [w5, w4, w3, w2, w1, wr]) (fun W h => SB.less W h) _ _ _ _ ?_
        refine wpAnyH_take (i := 19) (oi := { dst := some 71, op := Op.pick (Operand.tmp 68) (Operand.tmp 70) (Operand.const (Value.bool false)), type := 4, pos := "law.go:92", after := #[{ on := 16, ground := Ground.data }, { on := 18, ground := Ground.data }], guard := none }) (v := ?_) rfl (by kernel_rfl) (by kernel_rfl) (by kernel_rfl) (fun _ _ _ h => h) (Or.inl ⟨by rfl, ?_⟩) (by assumption) ?_
        rotate_left
        · intro W hSw; go_simp; try (with_reducible rfl)
        try simp only [Act.put, List.setIfInBounds_toArray, List.set_cons_zero, List.set_cons_succ]
        refine wpAnyH_take (i := 20) (oi := { dst := some 72, op := Op.move (Operand.tmp 71), type := 4, pos := "law.go:92", after := #[{ on := 19, ground := Ground.data }, { on := 18, ground := Ground.chain }], guard := none }) (v := ?_) rfl (by kernel_rfl) (by kernel_rfl) (by kernel_rfl) (fun _ _ _ h => h) (Or.inl ⟨by rfl, ?_⟩) (by assumption) ?_
        rotate_left
        · intro W hSw; go_simp; try (with_reducible rfl)
        try simp only [Act.put, List.setIfInBounds_toArray, List.set_cons_zero, List.set_cons_succ]
        refine wpAnyH_take (i := 21) (oi := { dst := some 73, op := Op.move (Operand.tmp 15), type := 22, pos := "law.go:92", after := #[{ on := 20, ground := Ground.guard }], guard := some (20, true) }) (v := ?_) rfl (by kernel_rfl) (by kernel_rfl) (by kernel_rfl) (fun _ _ _ h => h) (Or.inl ⟨by rfl, ?_⟩) (by assumption) ?_
        rotate_left
        · intro W hSw; go_simp; try (with_reducible rfl)
        try simp only [Act.put, List.setIfInBounds_toArray, List.set_cons_zero, List.set_cons_succ]
        refine wpAnyH_take (i := 22) (oi := { dst := some 74, op := Op.move (Operand.tmp 3), type := 25, pos := "law.go:92", after := #[{ on := 20, ground := Ground.guard }], guard := some (20, true) }) (v := ?_) rfl (by kernel_rfl) (by kernel_rfl) (by kernel_rfl) (fun _ _ _ h => h) (Or.inl ⟨by rfl, ?_⟩) (by assumption) ?_
        rotate_left
        · intro W hSw; go_simp; try (with_reducible rfl)
        try simp only [Act.put, List.setIfInBounds_toArray, List.set_cons_zero, List.set_cons_succ]
        refine wpAnyH_take (i := 23) (oi := { dst := some 75, op := Op.move (Operand.tmp 4), type := 5, pos := "law.go:92", after := #[{ on := 20, ground := Ground.guard }], guard := some (20, true) }) (v := ?_) rfl (by kernel_rfl) (by kernel_rfl) (by kernel_rfl) (fun _ _ _ h => h) (Or.inl ⟨by rfl, ?_⟩) (by assumption) ?_
        rotate_left
        · intro W hSw; go_simp; try (with_reducible rfl)
        try simp only [Act.put, List.setIfInBounds_toArray, List.set_cons_zero, List.set_cons_succ]
        refine wpAnyH_take (i := 24) (oi := { dst := some 76, op := Op.move (Operand.tmp 5), type := 5, pos := "law.go:92", after := #[{ on := 20, ground := Ground.guard }], guard := some (20, true) }) (v := ?_) rfl (by kernel_rfl) (by kernel_rfl) (by kernel_rfl) (fun _ _ _ h => h) (Or.inl ⟨by rfl, ?_⟩) (by assumption) ?_
        rotate_left
        · intro W hSw; go_simp; try (with_reducible rfl)
        try simp only [Act.put, List.setIfInBounds_toArray, List.set_cons_zero, List.set_cons_succ]
        refine wpAnyH_ready (rs := [25]) (by kernel_rfl) (by simp) ?_
        refine AllReadyH.cons (o := { dst := some 77, op := Op.call { callee := Callee.value (Operand.func 28), args := #[Operand.tmp 73, Operand.tmp 74, Operand.tmp 75, Operand.tmp 76], argTypes := #[22, 25, 5, 5] }, type := 22, pos := "law.go:92", after := #[{ on := 21, ground := Ground.data }, { on := 22, ground := Ground.data }, { on := 23, ground := Ground.data }, { on := 24, ground := Ground.data }, { on := 20, ground := Ground.chain }, { on := 20, ground := Ground.guard }], guard := some (20, true) }) rfl (fun K hK => ?_) AllReadyH.nil
        go_simp
        refine (bend_any _ _ (made_chgs_len c) k h hk hh d _ (HX.out.below (SB.b5 hHeld))).mono ?_
        rintro x w6 ⟨v6, rfl, hrb6, hbw6⟩
        try (go_wp2_with fail)
        have hHeld' := SB.step hHeld hbw6
        refine hK.out _ _ ?_ (fun _ => ?_)
        · exact hHeld'
        clear hK K
        try simp only [Act.put, List.setIfInBounds_toArray, List.set_cons_zero, List.set_cons_succ]
        have hHeld := SB.more hHeld'
        clear hHeld'
        refine wpAnyH_more (S' := SB [w6, w5, w4, w3, w2, w1, wr]) (fun W h => SB.less W h) _ _ _ _ ?_
        refine wpAnyH_ready (rs := [26]) (by kernel_rfl) (by simp) ?_
        refine AllReadyH.cons (o := { dst := some 78, op := Op.call { callee := Callee.value (Operand.func 27), args := #[Operand.tmp 77], argTypes := #[22] }, type := 4, pos := "law.go:92", after := #[{ on := 25, ground := Ground.data }, { on := 25, ground := Ground.chain }, { on := 20, ground := Ground.guard }], guard := some (20, true) }) rfl (fun K hK => ?_) AllReadyH.nil
        go_simp
        refine (reads_any _ _ _ (hrb6.below (SB.b0 hHeld))).mono ?_
        rintro x w7 ⟨rfl, hbw7⟩
        try (go_wp2_with fail)
        have hHeld' := SB.step hHeld hbw7
        refine hK.out _ _ ?_ (fun _ => ?_)
        · exact hHeld'
        clear hK K
        try simp only [Act.put, List.setIfInBounds_toArray, List.set_cons_zero, List.set_cons_succ]
        have hHeld := SB.more hHeld'
        clear hHeld'
        refine wpAnyH_more (S' := SB [w7, w6, w5, w4, w3, w2, w1, wr]) (fun W h => SB.less W h) _ _ _ _ ?_
        refine wpAnyH_take (i := 27) (oi := { dst := some 79, op := Op.pick (Operand.tmp 72) (Operand.tmp 78) (Operand.const (Value.bool false)), type := 4, pos := "law.go:92", after := #[{ on := 20, ground := Ground.data }, { on := 26, ground := Ground.data }], guard := none }) (v := ?_) rfl (by kernel_rfl) (by kernel_rfl) (by kernel_rfl) (fun _ _ _ h => h) (Or.inl ⟨by rfl, ?_⟩) (by assumption) ?_
        rotate_left
        · intro W hSw; go_simp; try (with_reducible rfl)
        try simp only [Act.put, List.setIfInBounds_toArray, List.set_cons_zero, List.set_cons_succ]
        refine wpAnyH_take (i := 28) (oi := { dst := some 12, op := Op.assign (Operand.tmp 79), type := 4, pos := "law.go:92", after := #[{ on := 27, ground := Ground.data }, { on := 26, ground := Ground.chain }, { on := 0, ground := Ground.phase }, { on := 1, ground := Ground.phase }, { on := 2, ground := Ground.phase }, { on := 3, ground := Ground.phase }, { on := 4, ground := Ground.phase }, { on := 5, ground := Ground.phase }, { on := 6, ground := Ground.phase }, { on := 7, ground := Ground.phase }, { on := 8, ground := Ground.phase }, { on := 9, ground := Ground.phase }, { on := 10, ground := Ground.phase }, { on := 11, ground := Ground.phase }, { on := 12, ground := Ground.phase }, { on := 13, ground := Ground.phase }, { on := 14, ground := Ground.phase }, { on := 15, ground := Ground.phase }, { on := 16, ground := Ground.phase }, { on := 17, ground := Ground.phase }, { on := 18, ground := Ground.phase }, { on := 19, ground := Ground.phase }, { on := 20, ground := Ground.phase }, { on := 21, ground := Ground.phase }, { on := 22, ground := Ground.phase }, { on := 23, ground := Ground.phase }, { on := 24, ground := Ground.phase }, { on := 25, ground := Ground.phase }, { on := 26, ground := Ground.phase }, { on := 27, ground := Ground.phase }], guard := none }) (v := ?_) rfl (by kernel_rfl) (by kernel_rfl) (by kernel_rfl) (fun _ _ _ h => h) (Or.inl ⟨by rfl, ?_⟩) (by assumption) ?_
        rotate_left
        · intro W hSw; go_simp; try (with_reducible rfl)
        try simp only [Act.put, List.setIfInBounds_toArray, List.set_cons_zero, List.set_cons_succ]
        refine wpAnyH_done (by kernel_rfl) ?_ _
        go_wp2
        go_ret
        exact ⟨rfl, HB.out.trans ((SB.b7 hHeld).mono HB.out.size)⟩
end Go.Proofs.Ytjanggdjbieceaa
