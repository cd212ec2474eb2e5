/-
  The contract of the reference's Changes: the same bytes of changes that take at most a hundred million bytes in all.
-/
import Derived.Test.YtjanggdjbieceaaChanges
import Derived.Test.YtjanggdjbieceaaRefRows
namespace Go.Proofs.Ytjanggdjbieceaa
open Go.RowKit Go.Rst

theorem gen_allocN {K : World → Prop} {W : World} {o : Obj} (h : ∀ w', w' = W.alloc o → Below W.heap.size W w' → K w') : K (W.alloc o) := h _ rfl ((Below.refl _ _).alloc (Nat.le_refl _) _)
theorem chgL_key (c : Chg) : (textL c.1.data.toList).length ≤ (chgL c).length := by
  unfold chgL
  simp only [List.length_append]
  omega
theorem chgL_put (key : ByteArray) (val : List UInt8) : chgL (key, val, false) = textL key.data.toList ++ [0] ++ textL val := by simp [chgL]
theorem chgL_gone (key : ByteArray) (val : List UInt8) : chgL (key, val, true) = textL key.data.toList ++ [1] := by simp [chgL]

set_option maxRecDepth 100000 in
set_option maxHeartbeats 4000000 in
theorem refChanges_any (v : Value) (rs : List Chg) (hbig : (chgsB rs).length ≤ 100000000) (hn : rs.length ≤ 100000000) (w : World) (hv : RC w v rs) :
    Calls Try.prog 24 #[v] w (NewB 5 w (chgsL rs)) := by
  obtain ⟨A, c, rfl, hlc, hc, hcells⟩ := hv
  have HC := Lib.hid hcells
  clear hcells
  unfold maxLen at hc
  go_enter Try.func24, Try.ntmps24
  go_wp2_with fail
  refine (refNum_any _ _).mono ?_
  rintro e w1 ⟨vn, rfl, hown, hbel⟩
  have e1 : clip (rs.length : Int) = rs.length := by unfold clip; omega
  rw [e1] at hown
  have h8 := numL_len8 (n := rs.length) (by omega)
  have HO := Lib.hid hown
  have HB := Lib.hid hbel
  clear e1 hown hbel
  go_wp2
  go_loopw [3, 4] (fun b i wr => ∃ k : Nat, k ≤ rs.length ∧ i = .int .i64 k ∧ wr.ownsRow w.heap.size 5 1 b (numL rs.length ++ chgsB (rs.take k)).length (bvs (numL rs.length ++ chgsB (rs.take k))) ∧ Below w.heap.size w wr)
    (fun _ i _ => rs.length - (intOf i).toNat)
  case atStart => exact ⟨0, Nat.zero_le _, rfl, by simpa [chgsB] using HO.out, HB.out⟩
  case round =>
    clear HO HB
    obtain ⟨k, hk, rfl, hown, hbel⟩ := hrel
    by_cases hlt : k < rs.length
    · obtain ⟨b, off, rfl, hb0, hcell⟩ : ∃ b off, A = some ⟨b, off, none⟩ ∧ b < w.heap.size ∧
          ∀ j (h : j < rs.length), w.cell? ⟨b, off + j * 3, none⟩ = some (.string rs[j].1) ∧ (∃ u, w.cell? ⟨b, off + j * 3 + 1, none⟩ = some u ∧ RB w u rs[j].2.1) ∧ w.cell? ⟨b, off + j * 3 + 2, none⟩ = some (.bool rs[j].2.2) := by
        rcases HC.out with rfl | h
        · simp at hlt
        · exact h
      obtain ⟨hc0, ⟨u, hc1, hru⟩, hc2⟩ := hcell k hlt
      have hb : b < wr.heap.size := Nat.lt_of_lt_of_le hb0 hbel.size
      have hk0 := (hbel.cell (p := ⟨b, off + k * 3, none⟩) hb0).trans hc0
      have hk1 := (hbel.cell (p := ⟨b, off + k * 3 + 1, none⟩) hb0).trans hc1
      have hk2 := (hbel.cell (p := ⟨b, off + k * 3 + 2, none⟩) hb0).trans hc2
      have hru1 := hru.below hbel
      have htk := chgsB_take hlt
      have hle := chgsB_le rs (k + 1)
      have hkl := chgL_len rs[k]
      have hkt := chgL_key rs[k]
      rw [htk, List.length_append] at hle
      obtain ⟨⟨key, val, gone⟩, hr⟩ : ∃ r, rs[k] = r := ⟨_, rfl⟩
      rw [hr] at hk0 hk2 hru hru1 htk hle hkl hkt
      have hacc : (numL rs.length ++ chgsB (rs.take k)).length ≤ 1000000000 := by rw [List.length_append]; omega
      have hnext : numL rs.length ++ chgsB (rs.take (k + 1)) = (numL rs.length ++ chgsB (rs.take k)) ++ chgL (key, val, gone) := by rw [htk]; simp [List.append_assoc]
      generalize numL rs.length ++ chgsB (rs.take k) = acc at *
      have hsz := hbel.size
      have hks : key.size ≤ 1000000000 := by rw [Array.length_toList] at hkl; show key.data.size ≤ _; simp only at hkl; omega
      have t1 : (textL key.data.toList).length ≤ 1000000000 := by simp only at hkt; omega
      have HO := Lib.hid (RB.own hown)
      have HB := Lib.hid hbel
      have HRU := Lib.hid hru1
      obtain ⟨A2, c2, rfl⟩ : ∃ A2 c2, u = .slice A2 val.length c2 := by
        obtain ⟨A2, c2, h, _⟩ := hru
        exact ⟨A2, c2, h⟩
      obtain ⟨A3, c3, rfl, _⟩ := own_shape hown
      have b1 : (0 : Int) ≤ (k : Int) := by omega
      have b2 : (k : Int) < (rs.length : Int) := by omega
      simp only at hk2 hk0 hk1
      have HTL := Lib.hid hle
      clear hcell hc0 hc1 hc2 htk HC hru hru1 hown hbel hkl hkt hr hle
      cases gone
      · have hput := chgL_put key val
        have hle := HTL.out
        rw [hput] at hle hnext
        simp only [List.length_append, List.length_cons, List.length_nil] at hle
        have hnx : numL rs.length ++ chgsB (rs.take (k + 1)) = acc ++ textL key.data.toList ++ [0] ++ textL val := by rw [hnext]; simp [List.append_assoc]
        have HNX := Lib.hid hnx
        have t2 : (textL val).length ≤ 1000000000 := by omega
        have hvs : (⟨val.toArray⟩ : ByteArray).size ≤ 1000000000 := by
          have : val.length ≤ (textL val).length := by unfold textL; rw [List.length_append]; omega
          show val.toArray.size ≤ _; simp; omega
        clear hput hnx hnext HTL hle
        go_wp2
        refine wp_region_held_drew (S := SB [wr]) (by kernel_rfl) (SB.start _) (fun hHeld => ?_)
        obtain ⟨w0, hw0⟩ : ∃ x, x = wr.drew := ⟨_, rfl⟩
        rw [← hw0] at hHeld ⊢
        clear hw0
        refine wpAnyH_take (i := 0) (oi := { dst := some 29, op := Op.move (Operand.tmp 3), type := 22, pos := "ref.go:45", after := #[], guard := none }) (v := ?_) rfl (by kernel_rfl) (by kernel_rfl) (by kernel_rfl) (fun _ _ _ h => h) (Or.inl ⟨by rfl, ?_⟩) (by assumption) ?_
        rotate_left
        · intro W hSw; go_simp; try (with_reducible rfl)
        try simp only [Act.put, List.setIfInBounds_toArray, List.set_cons_zero, List.set_cons_succ]
        refine wpAnyH_take (i := 1) (oi := { dst := some 30, op := Op.move (Operand.tmp 0), type := 24, pos := "ref.go:45", after := #[], guard := none }) (v := ?_) rfl (by kernel_rfl) (by kernel_rfl) (by kernel_rfl) (fun _ _ _ h => h) (Or.inl ⟨by rfl, ?_⟩) (by assumption) ?_
        rotate_left
        · intro W hSw; go_simp; try (with_reducible rfl)
        try simp only [Act.put, List.setIfInBounds_toArray, List.set_cons_zero, List.set_cons_succ]
        refine wpAnyH_take (i := 2) (oi := { dst := some 31, op := Op.move (Operand.tmp 4), type := 3, pos := "ref.go:45", after := #[], guard := none }) (v := ?_) rfl (by kernel_rfl) (by kernel_rfl) (by kernel_rfl) (fun _ _ _ h => h) (Or.inl ⟨by rfl, ?_⟩) (by assumption) ?_
        rotate_left
        · intro W hSw; go_simp; try (with_reducible rfl)
        try simp only [Act.put, List.setIfInBounds_toArray, List.set_cons_zero, List.set_cons_succ]
        refine wpAnyH_take (i := 3) (oi := { dst := some 32, op := Op.indexAddr 24 (Operand.tmp 30) (Operand.tmp 31), type := 0, pos := "ref.go:45", after := #[{ on := 1, ground := Ground.data }, { on := 2, ground := Ground.data }], guard := none }) (v := ?_) rfl (by kernel_rfl) (by kernel_rfl) (by kernel_rfl) (fun _ _ _ h => h) (Or.inl ⟨by rfl, ?_⟩) (by assumption) ?_
        rotate_left
        · intro W hSw; go_simp; try (with_reducible rfl)
        try simp only [Act.put, List.setIfInBounds_toArray, List.set_cons_zero, List.set_cons_succ]
        refine wpAnyH_take (i := 4) (oi := { dst := some 33, op := Op.fieldAddr 49 (Operand.tmp 32) 0, type := 0, pos := "ref.go:45", after := #[{ on := 3, ground := Ground.data }], guard := none }) (v := ?_) rfl (by kernel_rfl) (by kernel_rfl) (by kernel_rfl) (fun _ _ _ h => h) (Or.inl ⟨by rfl, ?_⟩) (by assumption) ?_
        rotate_left
        · intro W hSw; go_simp; try (with_reducible rfl)
        try simp only [Act.put, List.setIfInBounds_toArray, List.set_cons_zero, List.set_cons_succ]
        refine wpAnyH_take (i := 5) (oi := { dst := some 34, op := Op.load 9 (Operand.tmp 33), type := 9, pos := "ref.go:45", after := #[{ on := 4, ground := Ground.data }], guard := none }) (v := ?_) rfl (by kernel_rfl) (by kernel_rfl) (by kernel_rfl) (fun _ _ _ h => h) (Or.inl ⟨by rfl, ?_⟩) (by assumption) ?_
        rotate_left
        · intro W hSw; have hq := ((SB.b0 hSw).cell (p := ⟨b, off + k * 3, none⟩) hb).trans hk0; go_simp; try (with_reducible rfl)
        try simp only [Act.put, List.setIfInBounds_toArray, List.set_cons_zero, List.set_cons_succ]
        refine wpAnyH_take (i := 10) (oi := { dst := some 39, op := Op.move (Operand.tmp 0), type := 24, pos := "ref.go:45", after := #[], guard := none }) (v := ?_) rfl (by kernel_rfl) (by kernel_rfl) (by kernel_rfl) (fun _ _ _ h => h) (Or.inl ⟨by rfl, ?_⟩) (by assumption) ?_
        rotate_left
        · intro W hSw; go_simp; try (with_reducible rfl)
        try simp only [Act.put, List.setIfInBounds_toArray, List.set_cons_zero, List.set_cons_succ]
        refine wpAnyH_take (i := 11) (oi := { dst := some 40, op := Op.move (Operand.tmp 4), type := 3, pos := "ref.go:45", after := #[], guard := none }) (v := ?_) rfl (by kernel_rfl) (by kernel_rfl) (by kernel_rfl) (fun _ _ _ h => h) (Or.inl ⟨by rfl, ?_⟩) (by assumption) ?_
        rotate_left
        · intro W hSw; go_simp; try (with_reducible rfl)
        try simp only [Act.put, List.setIfInBounds_toArray, List.set_cons_zero, List.set_cons_succ]
        refine wpAnyH_take (i := 12) (oi := { dst := some 41, op := Op.indexAddr 24 (Operand.tmp 39) (Operand.tmp 40), type := 0, pos := "ref.go:45", after := #[{ on := 10, ground := Ground.data }, { on := 11, ground := Ground.data }], guard := none }) (v := ?_) rfl (by kernel_rfl) (by kernel_rfl) (by kernel_rfl) (fun _ _ _ h => h) (Or.inl ⟨by rfl, ?_⟩) (by assumption) ?_
        rotate_left
        · intro W hSw; go_simp; try (with_reducible rfl)
        try simp only [Act.put, List.setIfInBounds_toArray, List.set_cons_zero, List.set_cons_succ]
        refine wpAnyH_take (i := 13) (oi := { dst := some 42, op := Op.fieldAddr 49 (Operand.tmp 41) 1, type := 0, pos := "ref.go:45", after := #[{ on := 12, ground := Ground.data }], guard := none }) (v := ?_) rfl (by kernel_rfl) (by kernel_rfl) (by kernel_rfl) (fun _ _ _ h => h) (Or.inl ⟨by rfl, ?_⟩) (by assumption) ?_
        rotate_left
        · intro W hSw; go_simp; try (with_reducible rfl)
        try simp only [Act.put, List.setIfInBounds_toArray, List.set_cons_zero, List.set_cons_succ]
        refine wpAnyH_take (i := 14) (oi := { dst := some 43, op := Op.load 22 (Operand.tmp 42), type := 22, pos := "ref.go:45", after := #[{ on := 13, ground := Ground.data }], guard := none }) (v := ?_) rfl (by kernel_rfl) (by kernel_rfl) (by kernel_rfl) (fun _ _ _ h => h) (Or.inl ⟨by rfl, ?_⟩) (by assumption) ?_
        rotate_left
        · intro W hSw; have hq := ((SB.b0 hSw).cell (p := ⟨b, off + k * 3 + 1, none⟩) hb).trans hk1; go_simp; try (with_reducible rfl)
        try simp only [Act.put, List.setIfInBounds_toArray, List.set_cons_zero, List.set_cons_succ]
        refine wpAnyH_take (i := 15) (oi := { dst := some 44, op := Op.convert 22 9 (Operand.tmp 43), type := 9, pos := "ref.go:45", after := #[{ on := 14, ground := Ground.data }], guard := none }) (v := ?_) rfl (by kernel_rfl) (by kernel_rfl) (by kernel_rfl) (fun _ _ _ h => h) (Or.inl ⟨by rfl, ?_⟩) (by assumption) ?_
        rotate_left
        · intro W hSw; have hq := str22 (HRU.out.below (SB.b0 hSw)); go_simp; try (with_reducible rfl)
        try simp only [Act.put, List.setIfInBounds_toArray, List.set_cons_zero, List.set_cons_succ]
        refine wpAnyH_ready (rs := [6, 8]) (by kernel_rfl) (by simp) ?_
        refine AllReadyH.cons (o := { dst := some 35, op := Op.call { callee := Callee.value (Operand.func 22), args := #[Operand.tmp 34], argTypes := #[9] }, type := 22, pos := "ref.go:45", after := #[{ on := 5, ground := Ground.data }], guard := none }) rfl (fun K hK => ?_) (AllReadyH.cons (o := { dst := some 37, op := Op.buildSlice 22 1 #[(0, Operand.const (Value.int IntKind.u8 0))], type := 22, pos := "ref.go:45", after := #[], guard := none }) rfl (fun K hK => ?_) AllReadyH.nil)
        · go_simp
          refine (refText_any key hks _).mono ?_
          rintro x w1 ⟨v1, rfl, hown1, hbw1⟩
          try (go_wp2_with fail)
          have hHeld' := SB.step hHeld hbw1
          refine hK.out _ _ ?_ (fun _ => ?_)
          · exact hHeld'
          clear hK K
          try simp only [Act.put, List.setIfInBounds_toArray, List.set_cons_zero, List.set_cons_succ]
          have hHeld := SB.more hHeld'
          clear hHeld'
          refine wpAnyH_more (S' := SB [w1, wr]) (fun W h => SB.less W h) _ _ _ _ ?_
          refine wpAnyH_ready (rs := [7, 8]) (by kernel_rfl) (by simp) ?_
          refine AllReadyH.cons (o := { dst := some 36, op := Op.call { callee := Callee.value (Operand.func 37), args := #[Operand.tmp 29, Operand.tmp 35], argTypes := #[22, 22] }, type := 22, pos := "ref.go:45", after := #[{ on := 0, ground := Ground.data }, { on := 6, ground := Ground.data }, { on := 6, ground := Ground.chain }], guard := none }) rfl (fun K hK => ?_) (AllReadyH.cons (o := { dst := some 37, op := Op.buildSlice 22 1 #[(0, Operand.const (Value.int IntKind.u8 0))], type := 22, pos := "ref.go:45", after := #[], guard := none }) rfl (fun K hK => ?_) AllReadyH.nil)
          · go_simp
            refine (join_any _ _ _ _ (by omega) (by omega) _ (HO.out.below (SB.b1 hHeld)) ((RB.own hown1).below (SB.b0 hHeld))).mono ?_
            rintro x w2 ⟨v2, rfl, hown2, hbw2⟩
            try (go_wp2_with fail)
            have hHeld' := SB.step hHeld hbw2
            refine hK.out _ _ ?_ (fun _ => ?_)
            · exact hHeld'
            clear hK K
            try simp only [Act.put, List.setIfInBounds_toArray, List.set_cons_zero, List.set_cons_succ]
            have hHeld := SB.more hHeld'
            clear hHeld'
            refine wpAnyH_more (S' := SB [w2, w1, wr]) (fun W h => SB.less W h) _ _ _ _ ?_
            refine wpAnyH_ready (rs := [8]) (by kernel_rfl) (by simp) ?_
            refine AllReadyH.cons (o := { dst := some 37, op := Op.buildSlice 22 1 #[(0, Operand.const (Value.int IntKind.u8 0))], type := 22, pos := "ref.go:45", after := #[], guard := none }) rfl (fun K hK => ?_) AllReadyH.nil
            go_simp
            refine gen_allocN ?_
            intro wz hwz hbwz
            have hz : RB wz (.slice (some ⟨w2.heap.size, 0, none⟩) 1 1) [0] := by rw [hwz]; exact RB.lit w2 5 (0, 0) [0] _ rfl 1 rfl (by decide)
            clear hwz
            try (go_wp2_with fail)
            have hHeld' := SB.step hHeld hbwz
            refine hK.out _ _ ?_ (fun _ => ?_)
            · exact hHeld'
            clear hK K
            try simp only [Act.put, List.setIfInBounds_toArray, List.set_cons_zero, List.set_cons_succ]
            have hHeld := SB.more hHeld'
            clear hHeld'
            refine wpAnyH_more (S' := SB [wz, w2, w1, wr]) (fun W h => SB.less W h) _ _ _ _ ?_
            refine wpAnyH_ready (rs := [9]) (by kernel_rfl) (by simp) ?_
            refine AllReadyH.cons (o := { dst := some 38, op := Op.call { callee := Callee.value (Operand.func 37), args := #[Operand.tmp 36, Operand.tmp 37], argTypes := #[22, 22] }, type := 22, pos := "ref.go:45", after := #[{ on := 7, ground := Ground.data }, { on := 8, ground := Ground.data }, { on := 7, ground := Ground.chain }], guard := none }) rfl (fun K hK => ?_) AllReadyH.nil
            go_simp
            refine (join_any _ _ _ [0] (by rw [List.length_append]; omega) (by decide) _ ((RB.own hown2).below (SB.b1 hHeld)) (hz.below (SB.b0 hHeld))).mono ?_
            rintro x w3 ⟨v3, rfl, hown3, hbw3⟩
            try (go_wp2_with fail)
            have hHeld' := SB.step hHeld hbw3
            refine hK.out _ _ ?_ (fun _ => ?_)
            · exact hHeld'
            clear hK K
            try simp only [Act.put, List.setIfInBounds_toArray, List.set_cons_zero, List.set_cons_succ]
            have hHeld := SB.more hHeld'
            clear hHeld'
            refine wpAnyH_more (S' := SB [w3, wz, w2, w1, wr]) (fun W h => SB.less W h) _ _ _ _ ?_
            refine wpAnyH_ready (rs := [16]) (by kernel_rfl) (by simp) ?_
            refine AllReadyH.cons (o := { dst := some 45, op := Op.call { callee := Callee.value (Operand.func 22), args := #[Operand.tmp 44], argTypes := #[9] }, type := 22, pos := "ref.go:45", after := #[{ on := 15, ground := Ground.data }, { on := 9, ground := Ground.chain }], guard := none }) rfl (fun K hK => ?_) AllReadyH.nil
            go_simp
            refine (refText_any ⟨val.toArray⟩ hvs _).mono ?_
            rintro x w4 ⟨v4, rfl, hown4, hbw4⟩
            try (go_wp2_with fail)
            have hHeld' := SB.step hHeld hbw4
            refine hK.out _ _ ?_ (fun _ => ?_)
            · exact hHeld'
            clear hK K
            try simp only [Act.put, List.setIfInBounds_toArray, List.set_cons_zero, List.set_cons_succ]
            have hHeld := SB.more hHeld'
            clear hHeld'
            refine wpAnyH_more (S' := SB [w4, w3, wz, w2, w1, wr]) (fun W h => SB.less W h) _ _ _ _ ?_
            refine wpAnyH_ready (rs := [17]) (by kernel_rfl) (by simp) ?_
            refine AllReadyH.cons (o := { dst := some 46, op := Op.call { callee := Callee.value (Operand.func 37), args := #[Operand.tmp 38, Operand.tmp 45], argTypes := #[22, 22] }, type := 22, pos := "ref.go:45", after := #[{ on := 9, ground := Ground.data }, { on := 16, ground := Ground.data }, { on := 16, ground := Ground.chain }], guard := none }) rfl (fun K hK => ?_) AllReadyH.nil
            go_simp
            refine (join_any _ _ _ _ (by simp only [List.length_append, List.length_cons, List.length_nil]; omega) (by omega) _ ((RB.own hown3).below (SB.b1 hHeld)) ((RB.own hown4).below (SB.b0 hHeld))).mono ?_
            have HB5 := Lib.hid ((SB.b5 hHeld).size)
            rintro x w5 ⟨v5, rfl, hown5, hbw5⟩
            try (go_wp2_with fail)
            have hHeld' := SB.step hHeld hbw5
            refine hK.out _ _ ?_ (fun _ => ?_)
            · exact hHeld'
            clear hK K
            try simp only [Act.put, List.setIfInBounds_toArray, List.set_cons_zero, List.set_cons_succ]
            have hHeld := SB.more hHeld'
            clear hHeld'
            refine wpAnyH_more (S' := SB [w5, w4, w3, wz, w2, w1, wr]) (fun W h => SB.less W h) _ _ _ _ ?_
            refine wpAnyH_take (i := 18) (oi := { dst := some 3, op := Op.assign (Operand.tmp 46), type := 22, pos := "ref.go:45", after := #[{ on := 17, ground := Ground.data }, { on := 17, ground := Ground.chain }, { on := 0, ground := Ground.phase }, { on := 1, ground := Ground.phase }, { on := 2, ground := Ground.phase }, { on := 3, ground := Ground.phase }, { on := 4, ground := Ground.phase }, { on := 5, ground := Ground.phase }, { on := 6, ground := Ground.phase }, { on := 7, ground := Ground.phase }, { on := 8, ground := Ground.phase }, { on := 9, ground := Ground.phase }, { on := 10, ground := Ground.phase }, { on := 11, ground := Ground.phase }, { on := 12, ground := Ground.phase }, { on := 13, ground := Ground.phase }, { on := 14, ground := Ground.phase }, { on := 15, ground := Ground.phase }, { on := 16, ground := Ground.phase }, { on := 17, ground := Ground.phase }], guard := none }) (v := ?_) rfl (by kernel_rfl) (by kernel_rfl) (by kernel_rfl) (fun _ _ _ h => h) (Or.inl ⟨by rfl, ?_⟩) (by assumption) ?_
            rotate_left
            · intro W hSw; go_simp; try (with_reducible rfl)
            try simp only [Act.put, List.setIfInBounds_toArray, List.set_cons_zero, List.set_cons_succ]
            refine wpAnyH_done (by kernel_rfl) ?_ _
            go_wp2
            go_roundw
            case rel =>
              refine ⟨k + 1, by omega, by go_num, ?_, HB.out.trans ((SB.b6 hHeld).mono HB.out.size)⟩
              rw [HNX.out]
              exact own_base hown5 (Nat.le_trans HB.out.size HB5.out)
            case measure => simp [intOf]; omega
          · go_simp
            refine gen_allocN ?_
            intro wz hwz hbwz
            have hz : RB wz (.slice (some ⟨w1.heap.size, 0, none⟩) 1 1) [0] := by rw [hwz]; exact RB.lit w1 5 (0, 0) [0] _ rfl 1 rfl (by decide)
            clear hwz
            try (go_wp2_with fail)
            have hHeld' := SB.step hHeld hbwz
            refine hK.out _ _ ?_ (fun _ => ?_)
            · exact hHeld'
            clear hK K
            try simp only [Act.put, List.setIfInBounds_toArray, List.set_cons_zero, List.set_cons_succ]
            have hHeld := SB.more hHeld'
            clear hHeld'
            refine wpAnyH_more (S' := SB [wz, w1, wr]) (fun W h => SB.less W h) _ _ _ _ ?_
            refine wpAnyH_ready (rs := [7]) (by kernel_rfl) (by simp) ?_
            refine AllReadyH.cons (o := { dst := some 36, op := Op.call { callee := Callee.value (Operand.func 37), args := #[Operand.tmp 29, Operand.tmp 35], argTypes := #[22, 22] }, type := 22, pos := "ref.go:45", after := #[{ on := 0, ground := Ground.data }, { on := 6, ground := Ground.data }, { on := 6, ground := Ground.chain }], guard := none }) rfl (fun K hK => ?_) AllReadyH.nil
            go_simp
            refine (join_any _ _ _ _ (by omega) (by omega) _ (HO.out.below (SB.b2 hHeld)) ((RB.own hown1).below (SB.b1 hHeld))).mono ?_
            rintro x w2 ⟨v2, rfl, hown2, hbw2⟩
            try (go_wp2_with fail)
            have hHeld' := SB.step hHeld hbw2
            refine hK.out _ _ ?_ (fun _ => ?_)
            · exact hHeld'
            clear hK K
            try simp only [Act.put, List.setIfInBounds_toArray, List.set_cons_zero, List.set_cons_succ]
            have hHeld := SB.more hHeld'
            clear hHeld'
            refine wpAnyH_more (S' := SB [w2, wz, w1, wr]) (fun W h => SB.less W h) _ _ _ _ ?_
            refine wpAnyH_ready (rs := [9]) (by kernel_rfl) (by simp) ?_
            refine AllReadyH.cons (o := { dst := some 38, op := Op.call { callee := Callee.value (Operand.func 37), args := #[Operand.tmp 36, Operand.tmp 37], argTypes := #[22, 22] }, type := 22, pos := "ref.go:45", after := #[{ on := 7, ground := Ground.data }, { on := 8, ground := Ground.data }, { on := 7, ground := Ground.chain }], guard := none }) rfl (fun K hK => ?_) AllReadyH.nil
            go_simp
            refine (join_any _ _ _ [0] (by rw [List.length_append]; omega) (by decide) _ ((RB.own hown2).below (SB.b0 hHeld)) (hz.below (SB.b1 hHeld))).mono ?_
            rintro x w3 ⟨v3, rfl, hown3, hbw3⟩
            try (go_wp2_with fail)
            have hHeld' := SB.step hHeld hbw3
            refine hK.out _ _ ?_ (fun _ => ?_)
            · exact hHeld'
            clear hK K
            try simp only [Act.put, List.setIfInBounds_toArray, List.set_cons_zero, List.set_cons_succ]
            have hHeld := SB.more hHeld'
            clear hHeld'
            refine wpAnyH_more (S' := SB [w3, w2, wz, w1, wr]) (fun W h => SB.less W h) _ _ _ _ ?_
            refine wpAnyH_ready (rs := [16]) (by kernel_rfl) (by simp) ?_
            refine AllReadyH.cons (o := { dst := some 45, op := Op.call { callee := Callee.value (Operand.func 22), args := #[Operand.tmp 44], argTypes := #[9] }, type := 22, pos := "ref.go:45", after := #[{ on := 15, ground := Ground.data }, { on := 9, ground := Ground.chain }], guard := none }) rfl (fun K hK => ?_) AllReadyH.nil
            go_simp
            refine (refText_any ⟨val.toArray⟩ hvs _).mono ?_
            rintro x w4 ⟨v4, rfl, hown4, hbw4⟩
            try (go_wp2_with fail)
            have hHeld' := SB.step hHeld hbw4
            refine hK.out _ _ ?_ (fun _ => ?_)
            · exact hHeld'
            clear hK K
            try simp only [Act.put, List.setIfInBounds_toArray, List.set_cons_zero, List.set_cons_succ]
            have hHeld := SB.more hHeld'
            clear hHeld'
            refine wpAnyH_more (S' := SB [w4, w3, w2, wz, w1, wr]) (fun W h => SB.less W h) _ _ _ _ ?_
            refine wpAnyH_ready (rs := [17]) (by kernel_rfl) (by simp) ?_
            refine AllReadyH.cons (o := { dst := some 46, op := Op.call { callee := Callee.value (Operand.func 37), args := #[Operand.tmp 38, Operand.tmp 45], argTypes := #[22, 22] }, type := 22, pos := "ref.go:45", after := #[{ on := 9, ground := Ground.data }, { on := 16, ground := Ground.data }, { on := 16, ground := Ground.chain }], guard := none }) rfl (fun K hK => ?_) AllReadyH.nil
            go_simp
            refine (join_any _ _ _ _ (by simp only [List.length_append, List.length_cons, List.length_nil]; omega) (by omega) _ ((RB.own hown3).below (SB.b1 hHeld)) ((RB.own hown4).below (SB.b0 hHeld))).mono ?_
            have HB5 := Lib.hid ((SB.b5 hHeld).size)
            rintro x w5 ⟨v5, rfl, hown5, hbw5⟩
            try (go_wp2_with fail)
            have hHeld' := SB.step hHeld hbw5
            refine hK.out _ _ ?_ (fun _ => ?_)
            · exact hHeld'
            clear hK K
            try simp only [Act.put, List.setIfInBounds_toArray, List.set_cons_zero, List.set_cons_succ]
            have hHeld := SB.more hHeld'
            clear hHeld'
            refine wpAnyH_more (S' := SB [w5, w4, w3, w2, wz, w1, wr]) (fun W h => SB.less W h) _ _ _ _ ?_
            refine wpAnyH_take (i := 18) (oi := { dst := some 3, op := Op.assign (Operand.tmp 46), type := 22, pos := "ref.go:45", after := #[{ on := 17, ground := Ground.data }, { on := 17, ground := Ground.chain }, { on := 0, ground := Ground.phase }, { on := 1, ground := Ground.phase }, { on := 2, ground := Ground.phase }, { on := 3, ground := Ground.phase }, { on := 4, ground := Ground.phase }, { on := 5, ground := Ground.phase }, { on := 6, ground := Ground.phase }, { on := 7, ground := Ground.phase }, { on := 8, ground := Ground.phase }, { on := 9, ground := Ground.phase }, { on := 10, ground := Ground.phase }, { on := 11, ground := Ground.phase }, { on := 12, ground := Ground.phase }, { on := 13, ground := Ground.phase }, { on := 14, ground := Ground.phase }, { on := 15, ground := Ground.phase }, { on := 16, ground := Ground.phase }, { on := 17, ground := Ground.phase }], guard := none }) (v := ?_) rfl (by kernel_rfl) (by kernel_rfl) (by kernel_rfl) (fun _ _ _ h => h) (Or.inl ⟨by rfl, ?_⟩) (by assumption) ?_
            rotate_left
            · intro W hSw; go_simp; try (with_reducible rfl)
            try simp only [Act.put, List.setIfInBounds_toArray, List.set_cons_zero, List.set_cons_succ]
            refine wpAnyH_done (by kernel_rfl) ?_ _
            go_wp2
            go_roundw
            case rel =>
              refine ⟨k + 1, by omega, by go_num, ?_, HB.out.trans ((SB.b6 hHeld).mono HB.out.size)⟩
              rw [HNX.out]
              exact own_base hown5 (Nat.le_trans HB.out.size HB5.out)
            case measure => simp [intOf]; omega
        · go_simp
          refine gen_allocN ?_
          intro wz hwz hbwz
          have hz : RB wz (.slice (some ⟨w0.heap.size, 0, none⟩) 1 1) [0] := by rw [hwz]; exact RB.lit w0 5 (0, 0) [0] _ rfl 1 rfl (by decide)
          clear hwz
          try (go_wp2_with fail)
          have hHeld' := SB.step hHeld hbwz
          refine hK.out _ _ ?_ (fun _ => ?_)
          · exact hHeld'
          clear hK K
          try simp only [Act.put, List.setIfInBounds_toArray, List.set_cons_zero, List.set_cons_succ]
          have hHeld := SB.more hHeld'
          clear hHeld'
          refine wpAnyH_more (S' := SB [wz, wr]) (fun W h => SB.less W h) _ _ _ _ ?_
          refine wpAnyH_ready (rs := [6]) (by kernel_rfl) (by simp) ?_
          refine AllReadyH.cons (o := { dst := some 35, op := Op.call { callee := Callee.value (Operand.func 22), args := #[Operand.tmp 34], argTypes := #[9] }, type := 22, pos := "ref.go:45", after := #[{ on := 5, ground := Ground.data }], guard := none }) rfl (fun K hK => ?_) AllReadyH.nil
          go_simp
          refine (refText_any key hks _).mono ?_
          rintro x w1 ⟨v1, rfl, hown1, hbw1⟩
          try (go_wp2_with fail)
          have hHeld' := SB.step hHeld hbw1
          refine hK.out _ _ ?_ (fun _ => ?_)
          · exact hHeld'
          clear hK K
          try simp only [Act.put, List.setIfInBounds_toArray, List.set_cons_zero, List.set_cons_succ]
          have hHeld := SB.more hHeld'
          clear hHeld'
          refine wpAnyH_more (S' := SB [w1, wz, wr]) (fun W h => SB.less W h) _ _ _ _ ?_
          refine wpAnyH_ready (rs := [7]) (by kernel_rfl) (by simp) ?_
          refine AllReadyH.cons (o := { dst := some 36, op := Op.call { callee := Callee.value (Operand.func 37), args := #[Operand.tmp 29, Operand.tmp 35], argTypes := #[22, 22] }, type := 22, pos := "ref.go:45", after := #[{ on := 0, ground := Ground.data }, { on := 6, ground := Ground.data }, { on := 6, ground := Ground.chain }], guard := none }) rfl (fun K hK => ?_) AllReadyH.nil
          go_simp
          refine (join_any _ _ _ _ (by omega) (by omega) _ (HO.out.below (SB.b2 hHeld)) ((RB.own hown1).below (SB.b0 hHeld))).mono ?_
          rintro x w2 ⟨v2, rfl, hown2, hbw2⟩
          try (go_wp2_with fail)
          have hHeld' := SB.step hHeld hbw2
          refine hK.out _ _ ?_ (fun _ => ?_)
          · exact hHeld'
          clear hK K
          try simp only [Act.put, List.setIfInBounds_toArray, List.set_cons_zero, List.set_cons_succ]
          have hHeld := SB.more hHeld'
          clear hHeld'
          refine wpAnyH_more (S' := SB [w2, w1, wz, wr]) (fun W h => SB.less W h) _ _ _ _ ?_
          refine wpAnyH_ready (rs := [9]) (by kernel_rfl) (by simp) ?_
          refine AllReadyH.cons (o := { dst := some 38, op := Op.call { callee := Callee.value (Operand.func 37), args := #[Operand.tmp 36, Operand.tmp 37], argTypes := #[22, 22] }, type := 22, pos := "ref.go:45", after := #[{ on := 7, ground := Ground.data }, { on := 8, ground := Ground.data }, { on := 7, ground := Ground.chain }], guard := none }) rfl (fun K hK => ?_) AllReadyH.nil
          go_simp
          refine (join_any _ _ _ [0] (by rw [List.length_append]; omega) (by decide) _ ((RB.own hown2).below (SB.b0 hHeld)) (hz.below (SB.b2 hHeld))).mono ?_
          rintro x w3 ⟨v3, rfl, hown3, hbw3⟩
          try (go_wp2_with fail)
          have hHeld' := SB.step hHeld hbw3
          refine hK.out _ _ ?_ (fun _ => ?_)
          · exact hHeld'
          clear hK K
          try simp only [Act.put, List.setIfInBounds_toArray, List.set_cons_zero, List.set_cons_succ]
          have hHeld := SB.more hHeld'
          clear hHeld'
          refine wpAnyH_more (S' := SB [w3, w2, w1, wz, wr]) (fun W h => SB.less W h) _ _ _ _ ?_
          refine wpAnyH_ready (rs := [16]) (by kernel_rfl) (by simp) ?_
          refine AllReadyH.cons (o := { dst := some 45, op := Op.call { callee := Callee.value (Operand.func 22), args := #[Operand.tmp 44], argTypes := #[9] }, type := 22, pos := "ref.go:45", after := #[{ on := 15, ground := Ground.data }, { on := 9, ground := Ground.chain }], guard := none }) rfl (fun K hK => ?_) AllReadyH.nil
          go_simp
          refine (refText_any ⟨val.toArray⟩ hvs _).mono ?_
          rintro x w4 ⟨v4, rfl, hown4, hbw4⟩
          try (go_wp2_with fail)
          have hHeld' := SB.step hHeld hbw4
          refine hK.out _ _ ?_ (fun _ => ?_)
          · exact hHeld'
          clear hK K
          try simp only [Act.put, List.setIfInBounds_toArray, List.set_cons_zero, List.set_cons_succ]
          have hHeld := SB.more hHeld'
          clear hHeld'
          refine wpAnyH_more (S' := SB [w4, w3, w2, w1, wz, wr]) (fun W h => SB.less W h) _ _ _ _ ?_
          refine wpAnyH_ready (rs := [17]) (by kernel_rfl) (by simp) ?_
          refine AllReadyH.cons (o := { dst := some 46, op := Op.call { callee := Callee.value (Operand.func 37), args := #[Operand.tmp 38, Operand.tmp 45], argTypes := #[22, 22] }, type := 22, pos := "ref.go:45", after := #[{ on := 9, ground := Ground.data }, { on := 16, ground := Ground.data }, { on := 16, ground := Ground.chain }], guard := none }) rfl (fun K hK => ?_) AllReadyH.nil
          go_simp
          refine (join_any _ _ _ _ (by simp only [List.length_append, List.length_cons, List.length_nil]; omega) (by omega) _ ((RB.own hown3).below (SB.b1 hHeld)) ((RB.own hown4).below (SB.b0 hHeld))).mono ?_
          have HB5 := Lib.hid ((SB.b5 hHeld).size)
          rintro x w5 ⟨v5, rfl, hown5, hbw5⟩
          try (go_wp2_with fail)
          have hHeld' := SB.step hHeld hbw5
          refine hK.out _ _ ?_ (fun _ => ?_)
          · exact hHeld'
          clear hK K
          try simp only [Act.put, List.setIfInBounds_toArray, List.set_cons_zero, List.set_cons_succ]
          have hHeld := SB.more hHeld'
          clear hHeld'
          refine wpAnyH_more (S' := SB [w5, w4, w3, w2, w1, wz, wr]) (fun W h => SB.less W h) _ _ _ _ ?_
          refine wpAnyH_take (i := 18) (oi := { dst := some 3, op := Op.assign (Operand.tmp 46), type := 22, pos := "ref.go:45", after := #[{ on := 17, ground := Ground.data }, { on := 17, ground := Ground.chain }, { on := 0, ground := Ground.phase }, { on := 1, ground := Ground.phase }, { on := 2, ground := Ground.phase }, { on := 3, ground := Ground.phase }, { on := 4, ground := Ground.phase }, { on := 5, ground := Ground.phase }, { on := 6, ground := Ground.phase }, { on := 7, ground := Ground.phase }, { on := 8, ground := Ground.phase }, { on := 9, ground := Ground.phase }, { on := 10, ground := Ground.phase }, { on := 11, ground := Ground.phase }, { on := 12, ground := Ground.phase }, { on := 13, ground := Ground.phase }, { on := 14, ground := Ground.phase }, { on := 15, ground := Ground.phase }, { on := 16, ground := Ground.phase }, { on := 17, ground := Ground.phase }], guard := none }) (v := ?_) rfl (by kernel_rfl) (by kernel_rfl) (by kernel_rfl) (fun _ _ _ h => h) (Or.inl ⟨by rfl, ?_⟩) (by assumption) ?_
          rotate_left
          · intro W hSw; go_simp; try (with_reducible rfl)
          try simp only [Act.put, List.setIfInBounds_toArray, List.set_cons_zero, List.set_cons_succ]
          refine wpAnyH_done (by kernel_rfl) ?_ _
          go_wp2
          go_roundw
          case rel =>
            refine ⟨k + 1, by omega, by go_num, ?_, HB.out.trans ((SB.b6 hHeld).mono HB.out.size)⟩
            rw [HNX.out]
            exact own_base hown5 (Nat.le_trans HB.out.size HB5.out)
          case measure => simp [intOf]; omega
      · have hput := chgL_gone key val
        rw [hput] at hnext
        have hnx : numL rs.length ++ chgsB (rs.take (k + 1)) = acc ++ textL key.data.toList ++ [1] := by rw [hnext]; simp [List.append_assoc]
        have HNX := Lib.hid hnx
        clear hput hnx hnext HTL
        go_wp2_with fail
        refine (refText_any key hks _).mono ?_
        rintro x w1 ⟨v1, rfl, hown1, hbw1⟩
        go_wp2_with fail
        refine (join_any _ _ _ _ (by omega) (by omega) _ (HO.out.below hbw1) (RB.own hown1)).mono ?_
        rintro x w2 ⟨v2, rfl, hown2, hbw2⟩
        have HB2 := Lib.hid (hbw1.trans (hbw2.mono hbw1.size))
        go_wp2_with fail
        have hbl : Below w2.heap.size w2 (w2.alloc (.cells #[.int .u8 1] 5 (0, 0))) := (Below.refl _ _).alloc (Nat.le_refl _) _
        refine (join_any _ _ _ [1] (by rw [List.length_append]; omega) (by decide) _ ((RB.own hown2).below hbl) (RB.lit w2 5 (0, 0) [1] _ rfl 1 rfl (by decide))).mono ?_
        rintro x w3 ⟨v3, rfl, hown3, hbw3⟩
        have HB3 := Lib.hid (hbl.trans (hbw3.mono hbl.size))
        go_wp2
        go_roundw
        case rel =>
          refine ⟨k + 1, by omega, by go_num, ?_, ?_⟩
          · rw [HNX.out]
            exact own_base hown3 (Nat.le_trans HB.out.size (Nat.le_trans HB2.out.size hbl.size))
          · exact HB.out.trans ((HB2.out.trans (HB3.out.mono HB2.out.size)).mono HB.out.size)
        case measure => simp [intOf]; omega
    · go_wp2
      go_ret
      have : k = rs.length := by omega
      subst this
      rw [List.take_length] at hown
      exact ⟨_, rfl, hown, hbel⟩
end Go.Proofs.Ytjanggdjbieceaa
