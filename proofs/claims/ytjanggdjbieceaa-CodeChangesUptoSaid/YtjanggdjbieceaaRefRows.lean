/-
  The contract of the reference's Rows: the same bytes of rows that take at most a billion bytes in all.
-/
import Derived.Test.YtjanggdjbieceaaRefA
import Derived.Test.YtjanggdjbieceaaRows1
import Derived.Test.YtjanggdjbieceaaReg
namespace Go.Proofs.Ytjanggdjbieceaa
open Go.RowKit Go.Rst

theorem str22 {w : World} {v : Value} {l : List UInt8} (h : RB w v l) : (convert 22 9 v).run Try.prog w = .ok (.string ⟨l.toArray⟩) w := h.str Try.underlying22 Try.underlying5 Try.underlying9

set_option maxRecDepth 100000 in
set_option maxHeartbeats 4000000 in
theorem refRows_any (v : Value) (rs : List (ByteArray × List UInt8)) (hbig : (rowsB rs).length ≤ 100000000) (hn : rs.length ≤ 100000000) (w : World) (hv : RR w v rs) :
    Calls Try.prog 23 #[v] w (NewB 5 w (rowsL rs)) := by
  obtain ⟨A, c, rfl, hlc, hc, hcells⟩ := hv
  have HC := Lib.hid hcells
  clear hcells
  unfold maxLen at hc
  go_enter Try.func23, Try.ntmps23
  go_wp2_with fail
  refine (refNum_any _ _).mono ?_
  rintro e w1 ⟨vn, rfl, hown, hbel⟩
  have e1 : clip (rs.length : Int) = rs.length := by unfold clip; omega
  rw [e1] at hown
  have h8 := numL_len8 (n := rs.length) (by omega)
  have HO := Lib.hid hown
  have HB := Lib.hid hbel
  clear e1 hown hbel
  go_wp2
  go_loopw [3, 4] (fun b i wr => ∃ k : Nat, k ≤ rs.length ∧ i = .int .i64 k ∧ wr.ownsRow w.heap.size 5 1 b (numL rs.length ++ rowsB (rs.take k)).length (bvs (numL rs.length ++ rowsB (rs.take k))) ∧ Below w.heap.size w wr)
    (fun _ i _ => rs.length - (intOf i).toNat)
  case atStart => exact ⟨0, Nat.zero_le _, rfl, by simpa [rowsB] using HO.out, HB.out⟩
  case round =>
    clear HO HB
    obtain ⟨k, hk, rfl, hown, hbel⟩ := hrel
    by_cases hlt : k < rs.length
    · obtain ⟨b, off, rfl, hb0, hcell⟩ : ∃ b off, A = some ⟨b, off, none⟩ ∧ b < w.heap.size ∧
          ∀ j (h : j < rs.length), w.cell? ⟨b, off + j * 2, none⟩ = some (.string rs[j].1) ∧ ∃ u, w.cell? ⟨b, off + j * 2 + 1, none⟩ = some u ∧ RB w u rs[j].2 := by
        rcases HC.out with rfl | h
        · simp at hlt
        · exact h
      obtain ⟨hc0, u, hc1, hru⟩ := hcell k hlt
      have hb : b < wr.heap.size := Nat.lt_of_lt_of_le hb0 hbel.size
      have hk0 := (hbel.cell (p := ⟨b, off + k * 2, none⟩) hb0).trans hc0
      have hk1 := (hbel.cell (p := ⟨b, off + k * 2 + 1, none⟩) hb0).trans hc1
      have hru1 := hru.below hbel
      have htk := rowsB_take hlt
      have hle := rowsB_le rs (k + 1)
      have hrl := rowL_len rs[k].1.data.toList rs[k].2
      rw [htk, List.length_append] at hle
      generalize rs[k] = r at *
      have hacc : (numL rs.length ++ rowsB (rs.take k)).length ≤ 1000000000 := by rw [List.length_append]; omega
      have hrow : rowL r.1.data.toList r.2 = textL r.1.data.toList ++ textL r.2 := rfl
      have hrl2 : (rowL r.1.data.toList r.2).length = (textL r.1.data.toList).length + (textL r.2).length := by rw [hrow, List.length_append]
      have hnext : numL rs.length ++ rowsB (rs.take (k + 1)) = (numL rs.length ++ rowsB (rs.take k)) ++ textL r.1.data.toList ++ textL r.2 := by rw [htk, hrow]; simp [List.append_assoc]
      generalize numL rs.length ++ rowsB (rs.take k) = acc at *
      have HNX := Lib.hid hnext
      have hsz := hbel.size
      have hk : r.1.size ≤ 1000000000 := by rw [Array.length_toList] at hrl; show r.1.data.size ≤ _; omega
      have hl : (⟨r.2.toArray⟩ : ByteArray).size ≤ 1000000000 := by show r.2.toArray.size ≤ _; simp; omega
      have t1 : (textL r.1.data.toList).length ≤ 1000000000 := by omega
      have t2 : (textL r.2).length ≤ 1000000000 := by omega
      have HO := Lib.hid (RB.own hown)
      have HB := Lib.hid hbel
      have HRU := Lib.hid hru1
      obtain ⟨A2, c2, rfl⟩ : ∃ A2 c2, u = .slice A2 r.2.length c2 := by
        obtain ⟨A2, c2, h, _⟩ := hru
        exact ⟨A2, c2, h⟩
      obtain ⟨A3, c3, rfl, _⟩ := own_shape hown
      have b1 : (0 : Int) ≤ (k : Int) := by omega
      have b2 : (k : Int) < (rs.length : Int) := by omega
      clear hcell hc0 hc1 htk HC hru hru1 hown hbel hrow hrl2 hle hrl hnext
      go_wp2
      refine wp_region_held_drew (S := SB [wr]) (by kernel_rfl) (SB.start _) (fun hHeld => ?_)
      refine wpAnyH_take (i := 0) (oi := { dst := some 14, op := Op.move (Operand.tmp 3), type := 22, pos := "ref.go:33", after := #[], guard := none }) (v := ?_) rfl (by kernel_rfl) (by kernel_rfl) (by kernel_rfl) (fun _ _ _ h => h) (Or.inl ⟨by rfl, ?_⟩) (by assumption) ?_
      rotate_left
      · intro W hSw; go_simp; try (with_reducible rfl)
      try simp only [Act.put, List.setIfInBounds_toArray, List.set_cons_zero, List.set_cons_succ]
      refine wpAnyH_take (i := 1) (oi := { dst := some 15, op := Op.move (Operand.tmp 0), type := 29, pos := "ref.go:33", after := #[], guard := none }) (v := ?_) rfl (by kernel_rfl) (by kernel_rfl) (by kernel_rfl) (fun _ _ _ h => h) (Or.inl ⟨by rfl, ?_⟩) (by assumption) ?_
      rotate_left
      · intro W hSw; go_simp; try (with_reducible rfl)
      try simp only [Act.put, List.setIfInBounds_toArray, List.set_cons_zero, List.set_cons_succ]
      refine wpAnyH_take (i := 2) (oi := { dst := some 16, op := Op.move (Operand.tmp 4), type := 3, pos := "ref.go:33", after := #[], guard := none }) (v := ?_) rfl (by kernel_rfl) (by kernel_rfl) (by kernel_rfl) (fun _ _ _ h => h) (Or.inl ⟨by rfl, ?_⟩) (by assumption) ?_
      rotate_left
      · intro W hSw; go_simp; try (with_reducible rfl)
      try simp only [Act.put, List.setIfInBounds_toArray, List.set_cons_zero, List.set_cons_succ]
      refine wpAnyH_take (i := 3) (oi := { dst := some 17, op := Op.indexAddr 29 (Operand.tmp 15) (Operand.tmp 16), type := 0, pos := "ref.go:33", after := #[{ on := 1, ground := Ground.data }, { on := 2, ground := Ground.data }], guard := none }) (v := ?_) rfl (by kernel_rfl) (by kernel_rfl) (by kernel_rfl) (fun _ _ _ h => h) (Or.inl ⟨by rfl, ?_⟩) (by assumption) ?_
      rotate_left
      · intro W hSw; go_simp; try (with_reducible rfl)
      try simp only [Act.put, List.setIfInBounds_toArray, List.set_cons_zero, List.set_cons_succ]
      refine wpAnyH_take (i := 4) (oi := { dst := some 18, op := Op.fieldAddr 34 (Operand.tmp 17) 0, type := 0, pos := "ref.go:33", after := #[{ on := 3, ground := Ground.data }], guard := none }) (v := ?_) rfl (by kernel_rfl) (by kernel_rfl) (by kernel_rfl) (fun _ _ _ h => h) (Or.inl ⟨by rfl, ?_⟩) (by assumption) ?_
      rotate_left
      · intro W hSw; go_simp; try (with_reducible rfl)
      try simp only [Act.put, List.setIfInBounds_toArray, List.set_cons_zero, List.set_cons_succ]
      refine wpAnyH_take (i := 5) (oi := { dst := some 19, op := Op.load 9 (Operand.tmp 18), type := 9, pos := "ref.go:33", after := #[{ on := 4, ground := Ground.data }], guard := none }) (v := ?_) rfl (by kernel_rfl) (by kernel_rfl) (by kernel_rfl) (fun _ _ _ h => h) (Or.inl ⟨by rfl, ?_⟩) (by assumption) ?_
      rotate_left
      · intro W hSw; have hq := ((SB.b0 hSw).cell (p := ⟨b, off + k * 2, none⟩) hb).trans hk0; go_simp; try (with_reducible rfl)
      try simp only [Act.put, List.setIfInBounds_toArray, List.set_cons_zero, List.set_cons_succ]
      refine wpAnyH_take (i := 8) (oi := { dst := some 22, op := Op.move (Operand.tmp 0), type := 29, pos := "ref.go:33", after := #[], guard := none }) (v := ?_) rfl (by kernel_rfl) (by kernel_rfl) (by kernel_rfl) (fun _ _ _ h => h) (Or.inl ⟨by rfl, ?_⟩) (by assumption) ?_
      rotate_left
      · intro W hSw; go_simp; try (with_reducible rfl)
      try simp only [Act.put, List.setIfInBounds_toArray, List.set_cons_zero, List.set_cons_succ]
      refine wpAnyH_take (i := 9) (oi := { dst := some 23, op := Op.move (Operand.tmp 4), type := 3, pos := "ref.go:33", after := #[], guard := none }) (v := ?_) rfl (by kernel_rfl) (by kernel_rfl) (by kernel_rfl) (fun _ _ _ h => h) (Or.inl ⟨by rfl, ?_⟩) (by assumption) ?_
      rotate_left
      · intro W hSw; go_simp; try (with_reducible rfl)
      try simp only [Act.put, List.setIfInBounds_toArray, List.set_cons_zero, List.set_cons_succ]
      refine wpAnyH_take (i := 10) (oi := { dst := some 24, op := Op.indexAddr 29 (Operand.tmp 22) (Operand.tmp 23), type := 0, pos := "ref.go:33", after := #[{ on := 8, ground := Ground.data }, { on := 9, ground := Ground.data }], guard := none }) (v := ?_) rfl (by kernel_rfl) (by kernel_rfl) (by kernel_rfl) (fun _ _ _ h => h) (Or.inl ⟨by rfl, ?_⟩) (by assumption) ?_
      rotate_left
      · intro W hSw; go_simp; try (with_reducible rfl)
      try simp only [Act.put, List.setIfInBounds_toArray, List.set_cons_zero, List.set_cons_succ]
      refine wpAnyH_take (i := 11) (oi := { dst := some 25, op := Op.fieldAddr 34 (Operand.tmp 24) 1, type := 0, pos := "ref.go:33", after := #[{ on := 10, ground := Ground.data }], guard := none }) (v := ?_) rfl (by kernel_rfl) (by kernel_rfl) (by kernel_rfl) (fun _ _ _ h => h) (Or.inl ⟨by rfl, ?_⟩) (by assumption) ?_
      rotate_left
      · intro W hSw; go_simp; try (with_reducible rfl)
      try simp only [Act.put, List.setIfInBounds_toArray, List.set_cons_zero, List.set_cons_succ]
      refine wpAnyH_take (i := 12) (oi := { dst := some 26, op := Op.load 22 (Operand.tmp 25), type := 22, pos := "ref.go:33", after := #[{ on := 11, ground := Ground.data }], guard := none }) (v := ?_) rfl (by kernel_rfl) (by kernel_rfl) (by kernel_rfl) (fun _ _ _ h => h) (Or.inl ⟨by rfl, ?_⟩) (by assumption) ?_
      rotate_left
      · intro W hSw; have hq := ((SB.b0 hSw).cell (p := ⟨b, off + k * 2 + 1, none⟩) hb).trans hk1; go_simp; try (with_reducible rfl)
      try simp only [Act.put, List.setIfInBounds_toArray, List.set_cons_zero, List.set_cons_succ]
      refine wpAnyH_take (i := 13) (oi := { dst := some 27, op := Op.convert 22 9 (Operand.tmp 26), type := 9, pos := "ref.go:33", after := #[{ on := 12, ground := Ground.data }], guard := none }) (v := ?_) rfl (by kernel_rfl) (by kernel_rfl) (by kernel_rfl) (fun _ _ _ h => h) (Or.inl ⟨by rfl, ?_⟩) (by assumption) ?_
      rotate_left
      · intro W hSw; have hq := str22 (HRU.out.below (SB.b0 hSw)); go_simp; try (with_reducible rfl)
      try simp only [Act.put, List.setIfInBounds_toArray, List.set_cons_zero, List.set_cons_succ]
      refine wpAnyH_ready (rs := [6]) (by kernel_rfl) (by simp) ?_
      refine AllReadyH.cons (o := { dst := some 20, op := Op.call { callee := Callee.value (Operand.func 22), args := #[Operand.tmp 19], argTypes := #[9] }, type := 22, pos := "ref.go:33", after := #[{ on := 5, ground := Ground.data }], guard := none }) rfl (fun K hK => ?_) AllReadyH.nil
      go_simp
      refine (refText_any r.1 hk _).mono ?_
      rintro x w1 ⟨v1, rfl, hown1, hbw1⟩
      try (go_wp2_with fail)
      have hHeld' := SB.step hHeld hbw1
      refine hK.out _ _ ?_ (fun _ => ?_)
      · exact hHeld'
      clear hK K
      try simp only [Act.put, List.setIfInBounds_toArray, List.set_cons_zero, List.set_cons_succ]
      have hHeld := SB.more hHeld'
      clear hHeld'
      refine wpAnyH_more (S' := SB [w1, wr]) (fun W h => SB.less W h) _ _ _ _ ?_
      refine wpAnyH_ready (rs := [7]) (by kernel_rfl) (by simp) ?_
      refine AllReadyH.cons (o := { dst := some 21, op := Op.call { callee := Callee.value (Operand.func 37), args := #[Operand.tmp 14, Operand.tmp 20], argTypes := #[22, 22] }, type := 22, pos := "ref.go:33", after := #[{ on := 0, ground := Ground.data }, { on := 6, ground := Ground.data }, { on := 6, ground := Ground.chain }], guard := none }) rfl (fun K hK => ?_) AllReadyH.nil
      go_simp
      refine (join_any _ _ _ _ (by omega) (by omega) _ (HO.out.below (SB.b1 hHeld)) ((RB.own hown1).below (SB.b0 hHeld))).mono ?_
      rintro x w2 ⟨v2, rfl, hown2, hbw2⟩
      try (go_wp2_with fail)
      have hHeld' := SB.step hHeld hbw2
      refine hK.out _ _ ?_ (fun _ => ?_)
      · exact hHeld'
      clear hK K
      try simp only [Act.put, List.setIfInBounds_toArray, List.set_cons_zero, List.set_cons_succ]
      have hHeld := SB.more hHeld'
      clear hHeld'
      refine wpAnyH_more (S' := SB [w2, w1, wr]) (fun W h => SB.less W h) _ _ _ _ ?_
      refine wpAnyH_ready (rs := [14]) (by kernel_rfl) (by simp) ?_
      refine AllReadyH.cons (o := { dst := some 28, op := Op.call { callee := Callee.value (Operand.func 22), args := #[Operand.tmp 27], argTypes := #[9] }, type := 22, pos := "ref.go:33", after := #[{ on := 13, ground := Ground.data }, { on := 7, ground := Ground.chain }], guard := none }) rfl (fun K hK => ?_) AllReadyH.nil
      go_simp
      refine (refText_any ⟨r.2.toArray⟩ hl _).mono ?_
      rintro x w3 ⟨v3, rfl, hown3, hbw3⟩
      try (go_wp2_with fail)
      have hHeld' := SB.step hHeld hbw3
      refine hK.out _ _ ?_ (fun _ => ?_)
      · exact hHeld'
      clear hK K
      try simp only [Act.put, List.setIfInBounds_toArray, List.set_cons_zero, List.set_cons_succ]
      have hHeld := SB.more hHeld'
      clear hHeld'
      refine wpAnyH_more (S' := SB [w3, w2, w1, wr]) (fun W h => SB.less W h) _ _ _ _ ?_
      refine wpAnyH_ready (rs := [15]) (by kernel_rfl) (by simp) ?_
      refine AllReadyH.cons (o := { dst := some 29, op := Op.call { callee := Callee.value (Operand.func 37), args := #[Operand.tmp 21, Operand.tmp 28], argTypes := #[22, 22] }, type := 22, pos := "ref.go:33", after := #[{ on := 7, ground := Ground.data }, { on := 14, ground := Ground.data }, { on := 14, ground := Ground.chain }], guard := none }) rfl (fun K hK => ?_) AllReadyH.nil
      go_simp
      refine (join_any _ _ _ _ (by rw [List.length_append]; omega) (by omega) _ ((RB.own hown2).below (SB.b1 hHeld)) ((RB.own hown3).below (SB.b0 hHeld))).mono ?_
      have HB3 := Lib.hid ((SB.b3 hHeld).size)
      rintro x w4 ⟨v4, rfl, hown4, hbw4⟩
      try (go_wp2_with fail)
      have hHeld' := SB.step hHeld hbw4
      refine hK.out _ _ ?_ (fun _ => ?_)
      · exact hHeld'
      clear hK K
      try simp only [Act.put, List.setIfInBounds_toArray, List.set_cons_zero, List.set_cons_succ]
      have hHeld := SB.more hHeld'
      clear hHeld'
      refine wpAnyH_more (S' := SB [w4, w3, w2, w1, wr]) (fun W h => SB.less W h) _ _ _ _ ?_
      refine wpAnyH_take (i := 16) (oi := { dst := some 3, op := Op.assign (Operand.tmp 29), type := 22, pos := "ref.go:33", after := #[{ on := 15, ground := Ground.data }, { on := 15, ground := Ground.chain }, { on := 0, ground := Ground.phase }, { on := 1, ground := Ground.phase }, { on := 2, ground := Ground.phase }, { on := 3, ground := Ground.phase }, { on := 4, ground := Ground.phase }, { on := 5, ground := Ground.phase }, { on := 6, ground := Ground.phase }, { on := 7, ground := Ground.phase }, { on := 8, ground := Ground.phase }, { on := 9, ground := Ground.phase }, { on := 10, ground := Ground.phase }, { on := 11, ground := Ground.phase }, { on := 12, ground := Ground.phase }, { on := 13, ground := Ground.phase }, { on := 14, ground := Ground.phase }, { on := 15, ground := Ground.phase }], guard := none }) (v := ?_) rfl (by kernel_rfl) (by kernel_rfl) (by kernel_rfl) (fun _ _ _ h => h) (Or.inl ⟨by rfl, ?_⟩) (by assumption) ?_
      rotate_left
      · intro W hSw; go_simp; try (with_reducible rfl)
      try simp only [Act.put, List.setIfInBounds_toArray, List.set_cons_zero, List.set_cons_succ]
      refine wpAnyH_done (by kernel_rfl) ?_ _
      go_wp2
      go_roundw
      case rel =>
        refine ⟨k + 1, by omega, by go_num, ?_, HB.out.trans ((SB.b4 hHeld).mono HB.out.size)⟩
        rw [HNX.out]
        exact own_base hown4 (Nat.le_trans HB.out.size HB3.out)
      case measure => simp [intOf]; omega
    · go_wp2
      go_ret
      have : k = rs.length := by omega
      subst this
      rw [List.take_length] at hown
      exact ⟨_, rfl, hown, hbel⟩
end Go.Proofs.Ytjanggdjbieceaa
