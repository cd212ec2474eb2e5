/-
  CodePuts returns true, and changes nothing that was there, for every number, text, rows and bytes whose sizes are a machine's.
-/
import Derived.Test.YtjanggdjbieceaaMuch
namespace Go.Proofs.Ytjanggdjbieceaa
open Go.RowKit Go.Rst

theorem rowL_few {k l : List UInt8} (hk : k.length ≤ 1000000000) (hl : l.length ≤ 1000000000) : (rowL k l).length ≤ 16 + (k.length + l.length) := by
  have h1 := numL_len8 (n := k.length) (by omega)
  have h2 := numL_len8 (n := l.length) (by omega)
  unfold rowL textL
  simp only [List.length_append]
  omega
theorem size_list (s : ByteArray) : s.data.toList.length = s.size := by rw [Array.length_toList]; rfl
theorem rowsB_few : ∀ (rs : List (ByteArray × List UInt8)), sizes rs ≤ 1500 → (rowsB rs).length ≤ 16 * rs.length + sizes rs
  | [], _ => by simp [rowsB, sizes]
  | r :: rs, h => by
    have e : sizes (r :: rs) = r.1.size + r.2.length + sizes rs := by simp [sizes]
    have ih := rowsB_few rs (by omega)
    have h1 := size_list r.1
    have h2 := rowL_few (k := r.1.data.toList) (l := r.2) (by omega) (by omega)
    have e2 : rowsB (r :: rs) = rowL r.1.data.toList r.2 ++ rowsB rs := by unfold rowsB; rw [List.flatMap_cons]
    rw [e2, e, List.length_append, List.length_cons]
    omega
theorem rows_few {rs : List (ByteArray × List UInt8)} (h : many1500 rs = false) {v : Value} (w : World) (hv : RR w v rs) : Calls Try.prog 14 #[v] w (NewB 5 w (rowsL rs)) := by
  have h' : ¬ 1500 < rs.length + sizes rs := of_decide_eq_false h
  have := rowsB_few rs (by omega)
  exact rows_any v rs (by omega) (by omega) w hv
theorem refRows_few {rs : List (ByteArray × List UInt8)} (h : many1500 rs = false) {v : Value} (w : World) (hv : RR w v rs) : Calls Try.prog 23 #[v] w (NewB 5 w (rowsL rs)) := by
  have h' : ¬ 1500 < rs.length + sizes rs := of_decide_eq_false h
  have := rowsB_few rs (by omega)
  exact refRows_any v rs (by omega) (by omega) w hv
theorem rowList_12 (v : Value) (l : List UInt8) (w : World) (hv : RB w v l) (hl : l.length ≤ 140737488351232) :
    Calls Try.prog 20 #[v, .int .i64 12] w (GivesRL w (rowsAt l (nrows l 12))) := rowList_any v l 12 (by decide) w hv hl

set_option maxRecDepth 100000 in
set_option maxHeartbeats 8000000 in
theorem puts_walk (n : Int) (s : ByteArray) (vl : Value) (rs : List (ByteArray × List UInt8)) (vc : Value) (c : List UInt8) (k : Nat) (w : World)
    (hs : s.size ≤ 1048576) (hl : RR w vl rs) (ht : tot rs ≤ 4000000) (hc : RB w vc c) (hcl : c.length ≤ 140737488351232) (hk : k ≤ 255) :
    Calls Try.prog 6 #[.int .i64 n, .string s, vl, vc, .int .u8 k] w fun e w' => e = .returned (.bool true) ∧ Below w.heap.size w w' := by
  have HL0 := Lib.hid hl
  have HC := Lib.hid hc
  obtain ⟨A, cA, rfl, h1, h2, _⟩ := hl
  obtain ⟨A', cA', rfl, h1', h2', _⟩ := hc
  simp only [maxLen] at h2 h2'
  by_cases hbig : 500 < s.size
  · have hb : (500 : Int) < (s.size : Int) := by omega
    go_enter Try.func6, Try.ntmps6
    go_wp2_with fail
    refine (known_any _).mono ?_
    rintro e w1 ⟨rfl, hb⟩
    have HB := Lib.hid hb
    clear hb
    go_wp2
    go_ret
    exact ⟨rfl, HB.out⟩
  · have hb : ¬ (500 : Int) < (s.size : Int) := by omega
    go_enter Try.func6, Try.ntmps6
    go_wp2_with fail
    refine (much_any _ rs ht _ HL0.out).mono ?_
    rintro e w1 ⟨rfl, m, rfl⟩
    obtain ⟨mb, hmb⟩ : ∃ b, many1500 rs = b := ⟨_, rfl⟩
    rw [hmb]
    cases mb
    · have hfew := hmb
      clear hmb
      have HF := Lib.hid hfew
      clear hfew
      go_wp2_with fail
      refine (known_any _).mono ?_
      rintro e w1 ⟨rfl, hb1⟩
      have HB1 := Lib.hid ((bel_drewN (B := w.heap.size) (w := w) (n := m)).trans (hb1.mono (bel_drewN (B := w.heap.size) (w := w) (n := m)).size))
      clear hb1
      go_wp2_with fail
      refine (rowList_12 _ c _ (HC.out.below HB1.out) hcl).mono ?_
      rintro e w2 ⟨v2, rfl, hor, hb2⟩
      obtain ⟨wr, hwr⟩ : ∃ x, x = w2 := ⟨_, rfl⟩
      rw [← hwr] at hor hb2 ⊢
      clear hwr
      have HB := Lib.hid (HB1.out.trans (hb2.mono HB1.out.size))
      have HL := Lib.hid (rr_below HL0.out HB.out)
      have HM := Lib.hid hor.rr
      obtain ⟨A2, c2, rfl⟩ := or_shape hor
      clear hor hb2 HB1
      have k1 : (0 : Int) ≤ (k : Int) := by omega
      have k2 : (k : Int) ≤ 255 := by omega
      have htm : (k : Int).tmod 64 = ((k % 64 : Nat) : Int) := by rw [Int.tmod_eq_emod_of_nonneg k1]; omega
      go_wp2
      have hfew := HF.out
      refine wp_region_held_drew (S := SB [wr]) (by kernel_rfl) (SB.start _) (fun hHeld => ?_)
      refine wpAnyH_take (i := 0) (oi := { dst := some 27, op := Op.move (Operand.tmp 0), type := 3, pos := "law.go:78", after := #[], guard := none }) (v := ?_) rfl (by kernel_rfl) (by kernel_rfl) (by kernel_rfl) (fun _ _ _ h => h) (Or.inl ⟨by rfl, ?_⟩) (by assumption) ?_
      rotate_left
      · intro W hSw; go_simp; try (with_reducible rfl)
      try simp only [Act.put, List.setIfInBounds_toArray, List.set_cons_zero, List.set_cons_succ]
      refine wpAnyH_take (i := 3) (oi := { dst := some 30, op := Op.move (Operand.tmp 0), type := 3, pos := "law.go:78", after := #[], guard := none }) (v := ?_) rfl (by kernel_rfl) (by kernel_rfl) (by kernel_rfl) (fun _ _ _ h => h) (Or.inl ⟨by rfl, ?_⟩) (by assumption) ?_
      rotate_left
      · intro W hSw; go_simp; try (with_reducible rfl)
      try simp only [Act.put, List.setIfInBounds_toArray, List.set_cons_zero, List.set_cons_succ]
      refine wpAnyH_ready (rs := [1]) (by kernel_rfl) (by simp) ?_
      refine AllReadyH.cons (o := { dst := some 28, op := Op.call { callee := Callee.value (Operand.func 11), args := #[Operand.tmp 27], argTypes := #[3] }, type := 22, pos := "law.go:78", after := #[{ on := 0, ground := Ground.data }], guard := none }) rfl (fun K hK => ?_) AllReadyH.nil
      go_simp
      refine (num_any n _).mono ?_
      rintro x w1 ⟨v1, rfl, hown1, hbw1⟩
      try (go_wp2_with fail)
      have hHeld' := SB.step hHeld hbw1
      refine hK.out _ _ ?_ (fun _ => ?_)
      · exact hHeld'
      clear hK K
      try simp only [Act.put, List.setIfInBounds_toArray, List.set_cons_zero, List.set_cons_succ]
      have hHeld := SB.more hHeld'
      clear hHeld'
      refine wpAnyH_more (S' := SB [w1, wr]) (fun W h => SB.less W h) _ _ _ _ ?_
      refine wpAnyH_take (i := 2) (oi := { dst := some 29, op := Op.convert 22 9 (Operand.tmp 28), type := 9, pos := "law.go:78", after := #[{ on := 1, ground := Ground.data }], guard := none }) (v := ?_) rfl (by kernel_rfl) (by kernel_rfl) (by kernel_rfl) (fun _ _ _ h => h) (Or.inl ⟨by rfl, ?_⟩) (by assumption) ?_
      rotate_left
      · intro W hSw; have hq := str22 ((RB.own hown1).below (SB.b0 hSw)); go_simp; try (with_reducible rfl)
      try simp only [Act.put, List.setIfInBounds_toArray, List.set_cons_zero, List.set_cons_succ]
      refine wpAnyH_ready (rs := [4]) (by kernel_rfl) (by simp) ?_
      refine AllReadyH.cons (o := { dst := some 31, op := Op.call { callee := Callee.value (Operand.func 21), args := #[Operand.tmp 30], argTypes := #[3] }, type := 22, pos := "law.go:78", after := #[{ on := 3, ground := Ground.data }, { on := 1, ground := Ground.chain }], guard := none }) rfl (fun K hK => ?_) AllReadyH.nil
      go_simp
      refine (refNum_any n _).mono ?_
      rintro x w2 ⟨v2, rfl, hown2, hbw2⟩
      try (go_wp2_with fail)
      have hHeld' := SB.step hHeld hbw2
      refine hK.out _ _ ?_ (fun _ => ?_)
      · exact hHeld'
      clear hK K
      try simp only [Act.put, List.setIfInBounds_toArray, List.set_cons_zero, List.set_cons_succ]
      have hHeld := SB.more hHeld'
      clear hHeld'
      refine wpAnyH_more (S' := SB [w2, w1, wr]) (fun W h => SB.less W h) _ _ _ _ ?_
      refine wpAnyH_take (i := 5) (oi := { dst := some 32, op := Op.convert 22 9 (Operand.tmp 31), type := 9, pos := "law.go:78", after := #[{ on := 4, ground := Ground.data }], guard := none }) (v := ?_) rfl (by kernel_rfl) (by kernel_rfl) (by kernel_rfl) (fun _ _ _ h => h) (Or.inl ⟨by rfl, ?_⟩) (by assumption) ?_
      rotate_left
      · intro W hSw; have hq := str22 ((RB.own hown2).below (SB.b0 hSw)); go_simp; try (with_reducible rfl)
      try simp only [Act.put, List.setIfInBounds_toArray, List.set_cons_zero, List.set_cons_succ]
      refine wpAnyH_take (i := 6) (oi := { dst := some 33, op := Op.binOp BinOp.eql 9 (Operand.tmp 29) (Operand.tmp 32) 9, type := 4, pos := "law.go:78", after := #[{ on := 2, ground := Ground.data }, { on := 5, ground := Ground.data }], guard := none }) (v := ?_) rfl (by kernel_rfl) (by kernel_rfl) (by kernel_rfl) (fun _ _ _ h => h) (Or.inl ⟨by rfl, ?_⟩) (by assumption) ?_
      rotate_left
      · intro W hSw; go_simp; try (with_reducible rfl)
      try simp only [Act.put, List.setIfInBounds_toArray, List.set_cons_zero, List.set_cons_succ]
      refine wpAnyH_take (i := 7) (oi := { dst := some 34, op := Op.move (Operand.tmp 33), type := 4, pos := "law.go:78", after := #[{ on := 6, ground := Ground.data }, { on := 4, ground := Ground.chain }], guard := none }) (v := ?_) rfl (by kernel_rfl) (by kernel_rfl) (by kernel_rfl) (fun _ _ _ h => h) (Or.inl ⟨by rfl, ?_⟩) (by assumption) ?_
      rotate_left
      · intro W hSw; go_simp; try (with_reducible rfl)
      try simp only [Act.put, List.setIfInBounds_toArray, List.set_cons_zero, List.set_cons_succ]
      refine wpAnyH_take (i := 8) (oi := { dst := some 35, op := Op.move (Operand.tmp 0), type := 3, pos := "law.go:78", after := #[{ on := 7, ground := Ground.guard }], guard := some (7, true) }) (v := ?_) rfl (by kernel_rfl) (by kernel_rfl) (by kernel_rfl) (fun _ _ _ h => h) (Or.inl ⟨by rfl, ?_⟩) (by assumption) ?_
      rotate_left
      · intro W hSw; go_simp; try (with_reducible rfl)
      try simp only [Act.put, List.setIfInBounds_toArray, List.set_cons_zero, List.set_cons_succ]
      refine wpAnyH_take (i := 9) (oi := { dst := some 36, op := Op.move (Operand.tmp 4), type := 5, pos := "law.go:78", after := #[{ on := 7, ground := Ground.guard }], guard := some (7, true) }) (v := ?_) rfl (by kernel_rfl) (by kernel_rfl) (by kernel_rfl) (fun _ _ _ h => h) (Or.inl ⟨by rfl, ?_⟩) (by assumption) ?_
      rotate_left
      · intro W hSw; go_simp; try (with_reducible rfl)
      try simp only [Act.put, List.setIfInBounds_toArray, List.set_cons_zero, List.set_cons_succ]
      refine wpAnyH_take (i := 10) (oi := { dst := some 37, op := Op.binOp BinOp.rem 5 (Operand.tmp 36) (Operand.const (Value.int IntKind.u8 64)) 5, type := 5, pos := "law.go:78", after := #[{ on := 9, ground := Ground.data }, { on := 7, ground := Ground.guard }], guard := some (7, true) }) (v := ?_) rfl (by kernel_rfl) (by kernel_rfl) (by kernel_rfl) (fun _ _ _ h => h) (Or.inl ⟨by rfl, ?_⟩) (by assumption) ?_
      rotate_left
      · intro W hSw; have hq := htm; go_simp; try (with_reducible rfl)
      try simp only [Act.put, List.setIfInBounds_toArray, List.set_cons_zero, List.set_cons_succ]
      refine wpAnyH_take (i := 11) (oi := { dst := some 38, op := Op.binOp BinOp.shr 3 (Operand.tmp 35) (Operand.tmp 37) 5, type := 3, pos := "law.go:78", after := #[{ on := 8, ground := Ground.data }, { on := 10, ground := Ground.data }, { on := 7, ground := Ground.guard }], guard := some (7, true) }) (v := ?_) rfl (by kernel_rfl) (by kernel_rfl) (by kernel_rfl) (fun _ _ _ h => h) (Or.inl ⟨by rfl, ?_⟩) (by assumption) ?_
      rotate_left
      · intro W hSw; have hq : (0 : Int) ≤ (k : Int) % 64 := (by omega); have hq1 : (k : Int) % 64 ≤ 64 := (by omega); go_simp; try (with_reducible rfl)
      try simp only [Act.put, List.setIfInBounds_toArray, List.set_cons_zero, List.set_cons_succ]
      refine wpAnyH_take (i := 14) (oi := { dst := some 41, op := Op.move (Operand.tmp 0), type := 3, pos := "law.go:78", after := #[{ on := 7, ground := Ground.guard }], guard := some (7, true) }) (v := ?_) rfl (by kernel_rfl) (by kernel_rfl) (by kernel_rfl) (fun _ _ _ h => h) (Or.inl ⟨by rfl, ?_⟩) (by assumption) ?_
      rotate_left
      · intro W hSw; go_simp; try (with_reducible rfl)
      try simp only [Act.put, List.setIfInBounds_toArray, List.set_cons_zero, List.set_cons_succ]
      refine wpAnyH_take (i := 15) (oi := { dst := some 42, op := Op.move (Operand.tmp 4), type := 5, pos := "law.go:78", after := #[{ on := 7, ground := Ground.guard }], guard := some (7, true) }) (v := ?_) rfl (by kernel_rfl) (by kernel_rfl) (by kernel_rfl) (fun _ _ _ h => h) (Or.inl ⟨by rfl, ?_⟩) (by assumption) ?_
      rotate_left
      · intro W hSw; go_simp; try (with_reducible rfl)
      try simp only [Act.put, List.setIfInBounds_toArray, List.set_cons_zero, List.set_cons_succ]
      refine wpAnyH_take (i := 16) (oi := { dst := some 43, op := Op.binOp BinOp.rem 5 (Operand.tmp 42) (Operand.const (Value.int IntKind.u8 64)) 5, type := 5, pos := "law.go:78", after := #[{ on := 15, ground := Ground.data }, { on := 7, ground := Ground.guard }], guard := some (7, true) }) (v := ?_) rfl (by kernel_rfl) (by kernel_rfl) (by kernel_rfl) (fun _ _ _ h => h) (Or.inl ⟨by rfl, ?_⟩) (by assumption) ?_
      rotate_left
      · intro W hSw; have hq := htm; go_simp; try (with_reducible rfl)
      try simp only [Act.put, List.setIfInBounds_toArray, List.set_cons_zero, List.set_cons_succ]
      refine wpAnyH_take (i := 17) (oi := { dst := some 44, op := Op.binOp BinOp.shr 3 (Operand.tmp 41) (Operand.tmp 43) 5, type := 3, pos := "law.go:78", after := #[{ on := 14, ground := Ground.data }, { on := 16, ground := Ground.data }, { on := 7, ground := Ground.guard }], guard := some (7, true) }) (v := ?_) rfl (by kernel_rfl) (by kernel_rfl) (by kernel_rfl) (fun _ _ _ h => h) (Or.inl ⟨by rfl, ?_⟩) (by assumption) ?_
      rotate_left
      · intro W hSw; have hq : (0 : Int) ≤ (k : Int) % 64 := (by omega); have hq1 : (k : Int) % 64 ≤ 64 := (by omega); go_simp; try (with_reducible rfl)
      try simp only [Act.put, List.setIfInBounds_toArray, List.set_cons_zero, List.set_cons_succ]
      refine wpAnyH_ready (rs := [12]) (by kernel_rfl) (by simp) ?_
      refine AllReadyH.cons (o := { dst := some 39, op := Op.call { callee := Callee.value (Operand.func 11), args := #[Operand.tmp 38], argTypes := #[3] }, type := 22, pos := "law.go:78", after := #[{ on := 11, ground := Ground.data }, { on := 7, ground := Ground.chain }, { on := 7, ground := Ground.guard }], guard := some (7, true) }) rfl (fun K hK => ?_) AllReadyH.nil
      go_simp
      refine (num_any _ _).mono ?_
      rintro x w3 ⟨v3, rfl, hown3, hbw3⟩
      try (go_wp2_with fail)
      have hHeld' := SB.step hHeld hbw3
      refine hK.out _ _ ?_ (fun _ => ?_)
      · exact hHeld'
      clear hK K
      try simp only [Act.put, List.setIfInBounds_toArray, List.set_cons_zero, List.set_cons_succ]
      have hHeld := SB.more hHeld'
      clear hHeld'
      refine wpAnyH_more (S' := SB [w3, w2, w1, wr]) (fun W h => SB.less W h) _ _ _ _ ?_
      refine wpAnyH_take (i := 13) (oi := { dst := some 40, op := Op.convert 22 9 (Operand.tmp 39), type := 9, pos := "law.go:78", after := #[{ on := 12, ground := Ground.data }, { on := 7, ground := Ground.guard }], guard := some (7, true) }) (v := ?_) rfl (by kernel_rfl) (by kernel_rfl) (by kernel_rfl) (fun _ _ _ h => h) (Or.inl ⟨by rfl, ?_⟩) (by assumption) ?_
      rotate_left
      · intro W hSw; have hq := str22 ((RB.own hown3).below (SB.b0 hSw)); go_simp; try (with_reducible rfl)
      try simp only [Act.put, List.setIfInBounds_toArray, List.set_cons_zero, List.set_cons_succ]
      refine wpAnyH_ready (rs := [18]) (by kernel_rfl) (by simp) ?_
      refine AllReadyH.cons (o := { dst := some 45, op := Op.call { callee := Callee.value (Operand.func 21), args := #[Operand.tmp 44], argTypes := #[3] }, type := 22, pos := "law.go:78", after := #[{ on := 17, ground := Ground.data }, { on := 12, ground := Ground.chain }, { on := 7, ground := Ground.guard }], guard := some (7, true) }) rfl (fun K hK => ?_) AllReadyH.nil
      go_simp
      refine (refNum_any _ _).mono ?_
      rintro x w4 ⟨v4, rfl, hown4, hbw4⟩
      try (go_wp2_with fail)
      have hHeld' := SB.step hHeld hbw4
      refine hK.out _ _ ?_ (fun _ => ?_)
      · exact hHeld'
      clear hK K
      try simp only [Act.put, List.setIfInBounds_toArray, List.set_cons_zero, List.set_cons_succ]
      have hHeld := SB.more hHeld'
      clear hHeld'
      refine wpAnyH_more (S' := SB [w4, w3, w2, w1, wr]) (fun W h => SB.less W h) _ _ _ _ ?_
      refine wpAnyH_take (i := 19) (oi := { dst := some 46, op := Op.convert 22 9 (Operand.tmp 45), type := 9, pos := "law.go:78", after := #[{ on := 18, ground := Ground.data }, { on := 7, ground := Ground.guard }], guard := some (7, true) }) (v := ?_) rfl (by kernel_rfl) (by kernel_rfl) (by kernel_rfl) (fun _ _ _ h => h) (Or.inl ⟨by rfl, ?_⟩) (by assumption) ?_
      rotate_left
      · intro W hSw; have hq := str22 ((RB.own hown4).below (SB.b0 hSw)); go_simp; try (with_reducible rfl)
      try simp only [Act.put, List.setIfInBounds_toArray, List.set_cons_zero, List.set_cons_succ]
      refine wpAnyH_take (i := 20) (oi := { dst := some 47, op := Op.binOp BinOp.eql 9 (Operand.tmp 40) (Operand.tmp 46) 9, type := 4, pos := "law.go:78", after := #[{ on := 13, ground := Ground.data }, { on := 19, ground := Ground.data }, { on := 7, ground := Ground.guard }], guard := some (7, true) }) (v := ?_) rfl (by kernel_rfl) (by kernel_rfl) (by kernel_rfl) (fun _ _ _ h => h) (Or.inl ⟨by rfl, ?_⟩) (by assumption) ?_
      rotate_left
      · intro W hSw; go_simp; try (with_reducible rfl)
      try simp only [Act.put, List.setIfInBounds_toArray, List.set_cons_zero, List.set_cons_succ]
      refine wpAnyH_take (i := 21) (oi := { dst := some 48, op := Op.pick (Operand.tmp 34) (Operand.tmp 47) (Operand.const (Value.bool false)), type := 4, pos := "law.go:78", after := #[{ on := 7, ground := Ground.data }, { on := 20, ground := Ground.data }], guard := none }) (v := ?_) rfl (by kernel_rfl) (by kernel_rfl) (by kernel_rfl) (fun _ _ _ h => h) (Or.inl ⟨by rfl, ?_⟩) (by assumption) ?_
      rotate_left
      · intro W hSw; go_simp; try (with_reducible rfl)
      try simp only [Act.put, List.setIfInBounds_toArray, List.set_cons_zero, List.set_cons_succ]
      refine wpAnyH_take (i := 22) (oi := { dst := some 49, op := Op.move (Operand.tmp 48), type := 4, pos := "law.go:78", after := #[{ on := 21, ground := Ground.data }, { on := 18, ground := Ground.chain }], guard := none }) (v := ?_) rfl (by kernel_rfl) (by kernel_rfl) (by kernel_rfl) (fun _ _ _ h => h) (Or.inl ⟨by rfl, ?_⟩) (by assumption) ?_
      rotate_left
      · intro W hSw; go_simp; try (with_reducible rfl)
      try simp only [Act.put, List.setIfInBounds_toArray, List.set_cons_zero, List.set_cons_succ]
      refine wpAnyH_take (i := 23) (oi := { dst := some 50, op := Op.move (Operand.tmp 1), type := 9, pos := "law.go:78", after := #[{ on := 22, ground := Ground.guard }], guard := some (22, true) }) (v := ?_) rfl (by kernel_rfl) (by kernel_rfl) (by kernel_rfl) (fun _ _ _ h => h) (Or.inl ⟨by rfl, ?_⟩) (by assumption) ?_
      rotate_left
      · intro W hSw; go_simp; try (with_reducible rfl)
      try simp only [Act.put, List.setIfInBounds_toArray, List.set_cons_zero, List.set_cons_succ]
      refine wpAnyH_take (i := 26) (oi := { dst := some 53, op := Op.move (Operand.tmp 1), type := 9, pos := "law.go:78", after := #[{ on := 22, ground := Ground.guard }], guard := some (22, true) }) (v := ?_) rfl (by kernel_rfl) (by kernel_rfl) (by kernel_rfl) (fun _ _ _ h => h) (Or.inl ⟨by rfl, ?_⟩) (by assumption) ?_
      rotate_left
      · intro W hSw; go_simp; try (with_reducible rfl)
      try simp only [Act.put, List.setIfInBounds_toArray, List.set_cons_zero, List.set_cons_succ]
      refine wpAnyH_ready (rs := [24]) (by kernel_rfl) (by simp) ?_
      refine AllReadyH.cons (o := { dst := some 51, op := Op.call { callee := Callee.value (Operand.func 17), args := #[Operand.tmp 50], argTypes := #[9] }, type := 22, pos := "law.go:78", after := #[{ on := 23, ground := Ground.data }, { on := 22, ground := Ground.chain }, { on := 22, ground := Ground.guard }], guard := some (22, true) }) rfl (fun K hK => ?_) AllReadyH.nil
      go_simp
      refine (text_any s (by omega) _).mono ?_
      rintro x w5 ⟨v5, rfl, hown5, hbw5⟩
      try (go_wp2_with fail)
      have hHeld' := SB.step hHeld hbw5
      refine hK.out _ _ ?_ (fun _ => ?_)
      · exact hHeld'
      clear hK K
      try simp only [Act.put, List.setIfInBounds_toArray, List.set_cons_zero, List.set_cons_succ]
      have hHeld := SB.more hHeld'
      clear hHeld'
      refine wpAnyH_more (S' := SB [w5, w4, w3, w2, w1, wr]) (fun W h => SB.less W h) _ _ _ _ ?_
      refine wpAnyH_take (i := 25) (oi := { dst := some 52, op := Op.convert 22 9 (Operand.tmp 51), type := 9, pos := "law.go:78", after := #[{ on := 24, ground := Ground.data }, { on := 22, ground := Ground.guard }], guard := some (22, true) }) (v := ?_) rfl (by kernel_rfl) (by kernel_rfl) (by kernel_rfl) (fun _ _ _ h => h) (Or.inl ⟨by rfl, ?_⟩) (by assumption) ?_
      rotate_left
      · intro W hSw; have hq := str22 ((RB.own hown5).below (SB.b0 hSw)); go_simp; try (with_reducible rfl)
      try simp only [Act.put, List.setIfInBounds_toArray, List.set_cons_zero, List.set_cons_succ]
      refine wpAnyH_ready (rs := [27]) (by kernel_rfl) (by simp) ?_
      refine AllReadyH.cons (o := { dst := some 54, op := Op.call { callee := Callee.value (Operand.func 22), args := #[Operand.tmp 53], argTypes := #[9] }, type := 22, pos := "law.go:78", after := #[{ on := 26, ground := Ground.data }, { on := 24, ground := Ground.chain }, { on := 22, ground := Ground.guard }], guard := some (22, true) }) rfl (fun K hK => ?_) AllReadyH.nil
      go_simp
      refine (refText_any s (by omega) _).mono ?_
      rintro x w6 ⟨v6, rfl, hown6, hbw6⟩
      try (go_wp2_with fail)
      have hHeld' := SB.step hHeld hbw6
      refine hK.out _ _ ?_ (fun _ => ?_)
      · exact hHeld'
      clear hK K
      try simp only [Act.put, List.setIfInBounds_toArray, List.set_cons_zero, List.set_cons_succ]
      have hHeld := SB.more hHeld'
      clear hHeld'
      refine wpAnyH_more (S' := SB [w6, w5, w4, w3, w2, w1, wr]) (fun W h => SB.less W h) _ _ _ _ ?_
      refine wpAnyH_take (i := 28) (oi := { dst := some 55, op := Op.convert 22 9 (Operand.tmp 54), type := 9, pos := "law.go:78", after := #[{ on := 27, ground := Ground.data }, { on := 22, ground := Ground.guard }], guard := some (22, true) }) (v := ?_) rfl (by kernel_rfl) (by kernel_rfl) (by kernel_rfl) (fun _ _ _ h => h) (Or.inl ⟨by rfl, ?_⟩) (by assumption) ?_
      rotate_left
      · intro W hSw; have hq := str22 ((RB.own hown6).below (SB.b0 hSw)); go_simp; try (with_reducible rfl)
      try simp only [Act.put, List.setIfInBounds_toArray, List.set_cons_zero, List.set_cons_succ]
      refine wpAnyH_take (i := 29) (oi := { dst := some 56, op := Op.binOp BinOp.eql 9 (Operand.tmp 52) (Operand.tmp 55) 9, type := 4, pos := "law.go:78", after := #[{ on := 25, ground := Ground.data }, { on := 28, ground := Ground.data }, { on := 22, ground := Ground.guard }], guard := some (22, true) }) (v := ?_) rfl (by kernel_rfl) (by kernel_rfl) (by kernel_rfl) (fun _ _ _ h => h) (Or.inl ⟨by rfl, ?_⟩) (by assumption) ?_
      rotate_left
      · intro W hSw; go_simp; try (with_reducible rfl)
      try simp only [Act.put, List.setIfInBounds_toArray, List.set_cons_zero, List.set_cons_succ]
      refine wpAnyH_take (i := 30) (oi := { dst := some 57, op := Op.pick (Operand.tmp 49) (Operand.tmp 56) (Operand.const (Value.bool false)), type := 4, pos := "law.go:78", after := #[{ on := 22, ground := Ground.data }, { on := 29, ground := Ground.data }], guard := none }) (v := ?_) rfl (by kernel_rfl) (by kernel_rfl) (by kernel_rfl) (fun _ _ _ h => h) (Or.inl ⟨by rfl, ?_⟩) (by assumption) ?_
      rotate_left
      · intro W hSw; go_simp; try (with_reducible rfl)
      try simp only [Act.put, List.setIfInBounds_toArray, List.set_cons_zero, List.set_cons_succ]
      refine wpAnyH_take (i := 31) (oi := { dst := some 12, op := Op.assign (Operand.tmp 57), type := 4, pos := "law.go:78", after := #[{ on := 30, ground := Ground.data }, { on := 27, ground := Ground.chain }, { on := 0, ground := Ground.phase }, { on := 1, ground := Ground.phase }, { on := 2, ground := Ground.phase }, { on := 3, ground := Ground.phase }, { on := 4, ground := Ground.phase }, { on := 5, ground := Ground.phase }, { on := 6, ground := Ground.phase }, { on := 7, ground := Ground.phase }, { on := 8, ground := Ground.phase }, { on := 9, ground := Ground.phase }, { on := 10, ground := Ground.phase }, { on := 11, ground := Ground.phase }, { on := 12, ground := Ground.phase }, { on := 13, ground := Ground.phase }, { on := 14, ground := Ground.phase }, { on := 15, ground := Ground.phase }, { on := 16, ground := Ground.phase }, { on := 17, ground := Ground.phase }, { on := 18, ground := Ground.phase }, { on := 19, ground := Ground.phase }, { on := 20, ground := Ground.phase }, { on := 21, ground := Ground.phase }, { on := 22, ground := Ground.phase }, { on := 23, ground := Ground.phase }, { on := 24, ground := Ground.phase }, { on := 25, ground := Ground.phase }, { on := 26, ground := Ground.phase }, { on := 27, ground := Ground.phase }, { on := 28, ground := Ground.phase }, { on := 29, ground := Ground.phase }, { on := 30, ground := Ground.phase }], guard := none }) (v := ?_) rfl (by kernel_rfl) (by kernel_rfl) (by kernel_rfl) (fun _ _ _ h => h) (Or.inl ⟨by rfl, ?_⟩) (by assumption) ?_
      rotate_left
      · intro W hSw; go_simp; try (with_reducible rfl)
      try simp only [Act.put, List.setIfInBounds_toArray, List.set_cons_zero, List.set_cons_succ]
      refine wpAnyH_done (by kernel_rfl) ?_ _
      have HL6 := Lib.hid (rr_below HL.out (SB.b6 hHeld))
      have HM6 := Lib.hid (rr_below HM.out (SB.b6 hHeld))
      have HB6 := Lib.hid (HB.out.trans ((SB.b6 hHeld).mono HB.out.size))
      clear hHeld HL HM HB
      go_wp2
      refine wp_region_held_drew (S := SB [w6]) (by kernel_rfl) (SB.start _) (fun hHeld => ?_)
      refine wpAnyH_take (i := 0) (oi := { dst := some 58, op := Op.move (Operand.tmp 12), type := 4, pos := "law.go:79", after := #[], guard := none }) (v := ?_) rfl (by kernel_rfl) (by kernel_rfl) (by kernel_rfl) (fun _ _ _ h => h) (Or.inl ⟨by rfl, ?_⟩) (by assumption) ?_
      rotate_left
      · intro W hSw; go_simp; try (with_reducible rfl)
      try simp only [Act.put, List.setIfInBounds_toArray, List.set_cons_zero, List.set_cons_succ]
      refine wpAnyH_take (i := 1) (oi := { dst := some 59, op := Op.move (Operand.tmp 58), type := 4, pos := "law.go:79", after := #[{ on := 0, ground := Ground.data }], guard := none }) (v := ?_) rfl (by kernel_rfl) (by kernel_rfl) (by kernel_rfl) (fun _ _ _ h => h) (Or.inl ⟨by rfl, ?_⟩) (by assumption) ?_
      rotate_left
      · intro W hSw; go_simp; try (with_reducible rfl)
      try simp only [Act.put, List.setIfInBounds_toArray, List.set_cons_zero, List.set_cons_succ]
      refine wpAnyH_take (i := 2) (oi := { dst := some 60, op := Op.move (Operand.tmp 2), type := 29, pos := "law.go:79", after := #[{ on := 1, ground := Ground.guard }], guard := some (1, true) }) (v := ?_) rfl (by kernel_rfl) (by kernel_rfl) (by kernel_rfl) (fun _ _ _ h => h) (Or.inl ⟨by rfl, ?_⟩) (by assumption) ?_
      rotate_left
      · intro W hSw; go_simp; try (with_reducible rfl)
      try simp only [Act.put, List.setIfInBounds_toArray, List.set_cons_zero, List.set_cons_succ]
      refine wpAnyH_take (i := 5) (oi := { dst := some 63, op := Op.move (Operand.tmp 2), type := 29, pos := "law.go:79", after := #[{ on := 1, ground := Ground.guard }], guard := some (1, true) }) (v := ?_) rfl (by kernel_rfl) (by kernel_rfl) (by kernel_rfl) (fun _ _ _ h => h) (Or.inl ⟨by rfl, ?_⟩) (by assumption) ?_
      rotate_left
      · intro W hSw; go_simp; try (with_reducible rfl)
      try simp only [Act.put, List.setIfInBounds_toArray, List.set_cons_zero, List.set_cons_succ]
      refine wpAnyH_ready (rs := [3]) (by kernel_rfl) (by simp) ?_
      refine AllReadyH.cons (o := { dst := some 61, op := Op.call { callee := Callee.value (Operand.func 14), args := #[Operand.tmp 60], argTypes := #[29] }, type := 22, pos := "law.go:79", after := #[{ on := 2, ground := Ground.data }, { on := 1, ground := Ground.chain }, { on := 1, ground := Ground.guard }], guard := some (1, true) }) rfl (fun K hK => ?_) AllReadyH.nil
      go_simp
      refine (rows_few hfew _ (rr_below HL6.out (SB.b0 hHeld))).mono ?_
      rintro x w7 ⟨v7, rfl, hown7, hbw7⟩
      try (go_wp2_with fail)
      have hHeld' := SB.step hHeld hbw7
      refine hK.out _ _ ?_ (fun _ => ?_)
      · exact hHeld'
      clear hK K
      try simp only [Act.put, List.setIfInBounds_toArray, List.set_cons_zero, List.set_cons_succ]
      have hHeld := SB.more hHeld'
      clear hHeld'
      refine wpAnyH_more (S' := SB [w7, w6]) (fun W h => SB.less W h) _ _ _ _ ?_
      refine wpAnyH_take (i := 4) (oi := { dst := some 62, op := Op.convert 22 9 (Operand.tmp 61), type := 9, pos := "law.go:79", after := #[{ on := 3, ground := Ground.data }, { on := 1, ground := Ground.guard }], guard := some (1, true) }) (v := ?_) rfl (by kernel_rfl) (by kernel_rfl) (by kernel_rfl) (fun _ _ _ h => h) (Or.inl ⟨by rfl, ?_⟩) (by assumption) ?_
      rotate_left
      · intro W hSw; have hq := str22 ((RB.own hown7).below (SB.b0 hSw)); go_simp; try (with_reducible rfl)
      try simp only [Act.put, List.setIfInBounds_toArray, List.set_cons_zero, List.set_cons_succ]
      refine wpAnyH_ready (rs := [6]) (by kernel_rfl) (by simp) ?_
      refine AllReadyH.cons (o := { dst := some 64, op := Op.call { callee := Callee.value (Operand.func 23), args := #[Operand.tmp 63], argTypes := #[29] }, type := 22, pos := "law.go:79", after := #[{ on := 5, ground := Ground.data }, { on := 3, ground := Ground.chain }, { on := 1, ground := Ground.guard }], guard := some (1, true) }) rfl (fun K hK => ?_) AllReadyH.nil
      go_simp
      refine (refRows_few hfew _ (rr_below HL6.out (SB.b1 hHeld))).mono ?_
      rintro x w8 ⟨v8, rfl, hown8, hbw8⟩
      try (go_wp2_with fail)
      have hHeld' := SB.step hHeld hbw8
      refine hK.out _ _ ?_ (fun _ => ?_)
      · exact hHeld'
      clear hK K
      try simp only [Act.put, List.setIfInBounds_toArray, List.set_cons_zero, List.set_cons_succ]
      have hHeld := SB.more hHeld'
      clear hHeld'
      refine wpAnyH_more (S' := SB [w8, w7, w6]) (fun W h => SB.less W h) _ _ _ _ ?_
      refine wpAnyH_take (i := 7) (oi := { dst := some 65, op := Op.convert 22 9 (Operand.tmp 64), type := 9, pos := "law.go:79", after := #[{ on := 6, ground := Ground.data }, { on := 1, ground := Ground.guard }], guard := some (1, true) }) (v := ?_) rfl (by kernel_rfl) (by kernel_rfl) (by kernel_rfl) (fun _ _ _ h => h) (Or.inl ⟨by rfl, ?_⟩) (by assumption) ?_
      rotate_left
      · intro W hSw; have hq := str22 ((RB.own hown8).below (SB.b0 hSw)); go_simp; try (with_reducible rfl)
      try simp only [Act.put, List.setIfInBounds_toArray, List.set_cons_zero, List.set_cons_succ]
      refine wpAnyH_take (i := 8) (oi := { dst := some 66, op := Op.binOp BinOp.eql 9 (Operand.tmp 62) (Operand.tmp 65) 9, type := 4, pos := "law.go:79", after := #[{ on := 4, ground := Ground.data }, { on := 7, ground := Ground.data }, { on := 1, ground := Ground.guard }], guard := some (1, true) }) (v := ?_) rfl (by kernel_rfl) (by kernel_rfl) (by kernel_rfl) (fun _ _ _ h => h) (Or.inl ⟨by rfl, ?_⟩) (by assumption) ?_
      rotate_left
      · intro W hSw; go_simp; try (with_reducible rfl)
      try simp only [Act.put, List.setIfInBounds_toArray, List.set_cons_zero, List.set_cons_succ]
      refine wpAnyH_take (i := 9) (oi := { dst := some 67, op := Op.pick (Operand.tmp 59) (Operand.tmp 66) (Operand.const (Value.bool false)), type := 4, pos := "law.go:79", after := #[{ on := 1, ground := Ground.data }, { on := 8, ground := Ground.data }], guard := none }) (v := ?_) rfl (by kernel_rfl) (by kernel_rfl) (by kernel_rfl) (fun _ _ _ h => h) (Or.inl ⟨by rfl, ?_⟩) (by assumption) ?_
      rotate_left
      · intro W hSw; go_simp; try (with_reducible rfl)
      try simp only [Act.put, List.setIfInBounds_toArray, List.set_cons_zero, List.set_cons_succ]
      refine wpAnyH_take (i := 10) (oi := { dst := some 68, op := Op.move (Operand.tmp 67), type := 4, pos := "law.go:79", after := #[{ on := 9, ground := Ground.data }, { on := 6, ground := Ground.chain }], guard := none }) (v := ?_) rfl (by kernel_rfl) (by kernel_rfl) (by kernel_rfl) (fun _ _ _ h => h) (Or.inl ⟨by rfl, ?_⟩) (by assumption) ?_
      rotate_left
      · intro W hSw; go_simp; try (with_reducible rfl)
      try simp only [Act.put, List.setIfInBounds_toArray, List.set_cons_zero, List.set_cons_succ]
      refine wpAnyH_take (i := 11) (oi := { dst := some 69, op := Op.move (Operand.tmp 11), type := 29, pos := "law.go:79", after := #[{ on := 10, ground := Ground.guard }], guard := some (10, true) }) (v := ?_) rfl (by kernel_rfl) (by kernel_rfl) (by kernel_rfl) (fun _ _ _ h => h) (Or.inl ⟨by rfl, ?_⟩) (by assumption) ?_
      rotate_left
      · intro W hSw; go_simp; try (with_reducible rfl)
      try simp only [Act.put, List.setIfInBounds_toArray, List.set_cons_zero, List.set_cons_succ]
      refine wpAnyH_take (i := 14) (oi := { dst := some 72, op := Op.move (Operand.tmp 11), type := 29, pos := "law.go:79", after := #[{ on := 10, ground := Ground.guard }], guard := some (10, true) }) (v := ?_) rfl (by kernel_rfl) (by kernel_rfl) (by kernel_rfl) (fun _ _ _ h => h) (Or.inl ⟨by rfl, ?_⟩) (by assumption) ?_
      rotate_left
      · intro W hSw; go_simp; try (with_reducible rfl)
      try simp only [Act.put, List.setIfInBounds_toArray, List.set_cons_zero, List.set_cons_succ]
      refine wpAnyH_ready (rs := [12]) (by kernel_rfl) (by simp) ?_
      refine AllReadyH.cons (o := { dst := some 70, op := Op.call { callee := Callee.value (Operand.func 14), args := #[Operand.tmp 69], argTypes := #[29] }, type := 22, pos := "law.go:79", after := #[{ on := 11, ground := Ground.data }, { on := 10, ground := Ground.chain }, { on := 10, ground := Ground.guard }], guard := some (10, true) }) rfl (fun K hK => ?_) AllReadyH.nil
      go_simp
      refine (rows_made _ c (n := 12) (by decide) _ (rr_below HM6.out (SB.b2 hHeld))).mono ?_
      rintro x w9 ⟨v9, rfl, hown9, hbw9⟩
      try (go_wp2_with fail)
      have hHeld' := SB.step hHeld hbw9
      refine hK.out _ _ ?_ (fun _ => ?_)
      · exact hHeld'
      clear hK K
      try simp only [Act.put, List.setIfInBounds_toArray, List.set_cons_zero, List.set_cons_succ]
      have hHeld := SB.more hHeld'
      clear hHeld'
      refine wpAnyH_more (S' := SB [w9, w8, w7, w6]) (fun W h => SB.less W h) _ _ _ _ ?_
      refine wpAnyH_take (i := 13) (oi := { dst := some 71, op := Op.convert 22 9 (Operand.tmp 70), type := 9, pos := "law.go:79", after := #[{ on := 12, ground := Ground.data }, { on := 10, ground := Ground.guard }], guard := some (10, true) }) (v := ?_) rfl (by kernel_rfl) (by kernel_rfl) (by kernel_rfl) (fun _ _ _ h => h) (Or.inl ⟨by rfl, ?_⟩) (by assumption) ?_
      rotate_left
      · intro W hSw; have hq := str22 ((RB.own hown9).below (SB.b0 hSw)); go_simp; try (with_reducible rfl)
      try simp only [Act.put, List.setIfInBounds_toArray, List.set_cons_zero, List.set_cons_succ]
      refine wpAnyH_ready (rs := [15]) (by kernel_rfl) (by simp) ?_
      refine AllReadyH.cons (o := { dst := some 73, op := Op.call { callee := Callee.value (Operand.func 23), args := #[Operand.tmp 72], argTypes := #[29] }, type := 22, pos := "law.go:79", after := #[{ on := 14, ground := Ground.data }, { on := 12, ground := Ground.chain }, { on := 10, ground := Ground.guard }], guard := some (10, true) }) rfl (fun K hK => ?_) AllReadyH.nil
      go_simp
      refine (refRows_made _ c (n := 12) (by decide) _ (rr_below HM6.out (SB.b3 hHeld))).mono ?_
      rintro x w10 ⟨v10, rfl, hown10, hbw10⟩
      try (go_wp2_with fail)
      have hHeld' := SB.step hHeld hbw10
      refine hK.out _ _ ?_ (fun _ => ?_)
      · exact hHeld'
      clear hK K
      try simp only [Act.put, List.setIfInBounds_toArray, List.set_cons_zero, List.set_cons_succ]
      have hHeld := SB.more hHeld'
      clear hHeld'
      refine wpAnyH_more (S' := SB [w10, w9, w8, w7, w6]) (fun W h => SB.less W h) _ _ _ _ ?_
      refine wpAnyH_take (i := 16) (oi := { dst := some 74, op := Op.convert 22 9 (Operand.tmp 73), type := 9, pos := "law.go:79", after := #[{ on := 15, ground := Ground.data }, { on := 10, ground := Ground.guard }], guard := some (10, true) }) (v := ?_) rfl (by kernel_rfl) (by kernel_rfl) (by kernel_rfl) (fun _ _ _ h => h) (Or.inl ⟨by rfl, ?_⟩) (by assumption) ?_
      rotate_left
      · intro W hSw; have hq := str22 ((RB.own hown10).below (SB.b0 hSw)); go_simp; try (with_reducible rfl)
      try simp only [Act.put, List.setIfInBounds_toArray, List.set_cons_zero, List.set_cons_succ]
      refine wpAnyH_take (i := 17) (oi := { dst := some 75, op := Op.binOp BinOp.eql 9 (Operand.tmp 71) (Operand.tmp 74) 9, type := 4, pos := "law.go:79", after := #[{ on := 13, ground := Ground.data }, { on := 16, ground := Ground.data }, { on := 10, ground := Ground.guard }], guard := some (10, true) }) (v := ?_) rfl (by kernel_rfl) (by kernel_rfl) (by kernel_rfl) (fun _ _ _ h => h) (Or.inl ⟨by rfl, ?_⟩) (by assumption) ?_
      rotate_left
      · intro W hSw; go_simp; try (with_reducible rfl)
      try simp only [Act.put, List.setIfInBounds_toArray, List.set_cons_zero, List.set_cons_succ]
      refine wpAnyH_take (i := 18) (oi := { dst := some 76, op := Op.pick (Operand.tmp 68) (Operand.tmp 75) (Operand.const (Value.bool false)), type := 4, pos := "law.go:79", after := #[{ on := 10, ground := Ground.data }, { on := 17, ground := Ground.data }], guard := none }) (v := ?_) rfl (by kernel_rfl) (by kernel_rfl) (by kernel_rfl) (fun _ _ _ h => h) (Or.inl ⟨by rfl, ?_⟩) (by assumption) ?_
      rotate_left
      · intro W hSw; go_simp; try (with_reducible rfl)
      try simp only [Act.put, List.setIfInBounds_toArray, List.set_cons_zero, List.set_cons_succ]
      refine wpAnyH_take (i := 19) (oi := { dst := some 10, op := Op.assign (Operand.tmp 76), type := 4, pos := "law.go:79", after := #[{ on := 18, ground := Ground.data }, { on := 15, ground := Ground.chain }, { on := 0, ground := Ground.phase }, { on := 1, ground := Ground.phase }, { on := 2, ground := Ground.phase }, { on := 3, ground := Ground.phase }, { on := 4, ground := Ground.phase }, { on := 5, ground := Ground.phase }, { on := 6, ground := Ground.phase }, { on := 7, ground := Ground.phase }, { on := 8, ground := Ground.phase }, { on := 9, ground := Ground.phase }, { on := 10, ground := Ground.phase }, { on := 11, ground := Ground.phase }, { on := 12, ground := Ground.phase }, { on := 13, ground := Ground.phase }, { on := 14, ground := Ground.phase }, { on := 15, ground := Ground.phase }, { on := 16, ground := Ground.phase }, { on := 17, ground := Ground.phase }, { on := 18, ground := Ground.phase }], guard := none }) (v := ?_) rfl (by kernel_rfl) (by kernel_rfl) (by kernel_rfl) (fun _ _ _ h => h) (Or.inl ⟨by rfl, ?_⟩) (by assumption) ?_
      rotate_left
      · intro W hSw; go_simp; try (with_reducible rfl)
      try simp only [Act.put, List.setIfInBounds_toArray, List.set_cons_zero, List.set_cons_succ]
      refine wpAnyH_done (by kernel_rfl) ?_ _
      go_wp2
      go_ret
      exact ⟨rfl, HB6.out.trans ((SB.b4 hHeld).mono HB6.out.size)⟩
    · clear hmb
      go_wp2_with fail
      refine (known_any _).mono ?_
      rintro e w1 ⟨rfl, hb1⟩
      have HB1 := Lib.hid ((bel_drewN (B := w.heap.size) (w := w) (n := m)).trans (hb1.mono (bel_drewN (B := w.heap.size) (w := w) (n := m)).size))
      clear hb1
      go_wp2
      go_ret
      exact ⟨rfl, HB1.out⟩
end Go.Proofs.Ytjanggdjbieceaa
