/-
  The contract of the document's Apply: rows behind changes.
-/
import Derived.Test.YtomkbgghljcbfaaRefPut
import Derived.Test.YtomkbgghljcbfaaRefOut
import Derived.Test.YtomkbgghljcbfaaGNum
import Derived.Test.YtomkbgghljcbfaaGPg
namespace Go.Proofs.Ytomkbgghljcbfaa
open Go.RowKit Go.Rst Go.Pg Go.Crc

set_option maxRecDepth 100000 in
set_option maxHeartbeats 4000000 in
theorem refApply_any (v u : Value) (rs : List Rw) (cs : List Chg) (w : World) (hv : RR w v rs) (hu : RC w u cs) (hlen : rs.length + cs.length ≤ 3000000000000) :
    Calls Try.prog 19 #[v, u] w fun e w' => ∃ v', e = .returned v' ∧ RV w w' v' (applyL rs cs) ∧ Below w.heap.size w w' := by
  have HC := Lib.hid hu
  obtain ⟨Au, cu, rfl, hlu, hcu, _⟩ := hu
  unfold maxLen at hcu
  have HV := Lib.hid (RV.of hv)
  obtain ⟨A0, c0, rfl, _, _⟩ := rr_shape hv
  clear hv
  go_enter Try.func19, Try.ntmps19
  go_wp2
  go_loopw [0, 5] (fun lv i wr => ∃ k : Nat, k ≤ cs.length ∧ i = .int .i64 k ∧ RV w wr lv (applyL rs (cs.take k)) ∧ Below w.heap.size w wr) (fun _ i _ => cs.length - (intOf i).toNat)
  case atStart => exact ⟨0, Nat.zero_le _, rfl, HV.out, Below.refl _ _⟩
  case round =>
    obtain ⟨k, hk, rfl, hrv, hbel⟩ := hrel
    obtain ⟨Wo, hWo⟩ : ∃ x, x = wr := ⟨_, rfl⟩
    subst hWo
    have hal := applyL_len rs (cs.take k)
    rw [List.length_take] at hal
    by_cases hlt : k < cs.length
    · obtain ⟨b, off, uv, rfl, hx, hy, hr, hz⟩ := rc_at HC.out hlt
      have hbw : b < w.heap.size := block_lt_of_cell hx
      have hstep := applyL_take (l := rs) hlt
      obtain ⟨acc, hacc⟩ : ∃ acc, acc = applyL rs (cs.take k) := ⟨_, rfl⟩
      rw [← hacc] at hrv hal hstep
      obtain ⟨kk, hkk⟩ : ∃ x, x = cs[k].1 := ⟨_, rfl⟩
      obtain ⟨vv, hvv⟩ : ∃ x, x = cs[k].2.1 := ⟨_, rfl⟩
      obtain ⟨gg, hgg⟩ : ∃ x, x = cs[k].2.2 := ⟨_, rfl⟩
      have hck : cs[k] = (kk, vv, gg) := by rw [hkk, hvv, hgg]
      rw [← hkk] at hx
      rw [← hvv] at hr
      rw [← hgg] at hz
      rw [hck] at hstep
      have hx' := (hbel.cell (p := ⟨b, off + k * 3, none⟩) hbw).trans hx
      have hy' := (hbel.cell (p := ⟨b, off + k * 3 + 1, none⟩) hbw).trans hy
      have hz' := (hbel.cell (p := ⟨b, off + k * 3 + 2, none⟩) hbw).trans hz
      have hxd := fun j => (show (Wo.drewN j).cell? ⟨b, off + k * 3, none⟩ = _ from hx')
      have hyd := fun j => (show (Wo.drewN j).cell? ⟨b, off + k * 3 + 1, none⟩ = _ from hy')
      have hcall1 := out_any w _ acc kk Wo hrv (by omega)
      have hcall2 := fun X (hb : Below Wo.heap.size Wo X) => put_any w _ acc kk uv vv X (hrv.below hb (Nat.le_refl _)) hr (by omega)
      have hbs : b < Wo.heap.size := Nat.lt_of_lt_of_le hbw hbel.size
      obtain ⟨Al, cl, rfl, _, _⟩ := hrv.shape
      obtain ⟨A1, c1, hus⟩ := rb_shape hr
      obtain ⟨nv, hnv⟩ : ∃ nv, nv = vv.length := ⟨_, rfl⟩
      rw [← hnv] at hus
      subst hus
      have H1 := Lib.hid hcall1
      have H2 := Lib.hid hcall2
      have HST := Lib.hid hstep
      have HB := Lib.hid hbel
      have q1 : (0 : Int) ≤ (k : Int) := by omega
      have q2 : (k : Int) < cs.length := by omega
      clear hcall1 hcall2 hstep hbel hrv hr hx hy hz hkk hvv hgg hck hacc hnv
      cases gg with
      | true =>
        go_wp2_with fail
        refine H1.out.mono ?_
        rintro e w3 ⟨v3, rfl, h3, hb3⟩
        obtain ⟨A3, c3, rfl, _, _⟩ := h3.shape
        have H3 := Lib.hid h3
        have HB3 := Lib.hid (HB.out.trans (hb3.mono HB.out.size))
        clear h3 hb3
        go_wp2
        go_roundw
        case rel => exact ⟨k + 1, by omega, by go_num, by rw [HST.out]; exact H3.out, HB3.out⟩
        case measure => simp [intOf]; omega
      | false =>
        go_wp2
        refine wp_region_held_drew (S := SB [Wo]) (by kernel_rfl) (SB.start _) (fun hHeld => ?_)
        refine wpAnyH_take (i := 0) (oi := { dst := some 24, op := Op.move (Operand.tmp 0), type := 34, pos := "ref.go:132", after := #[], guard := none }) (v := ?_) rfl (by kernel_rfl) (by kernel_rfl) (by kernel_rfl) (fun _ _ _ h => h) (Or.inl ⟨by rfl, ?_⟩) (by assumption) ?_
        rotate_left
        · intro W hSw; go_simp; try (with_reducible rfl)
        try simp only [Act.put, List.setIfInBounds_toArray, List.set_cons_zero, List.set_cons_succ]
        refine wpAnyH_take (i := 1) (oi := { dst := some 25, op := Op.move (Operand.tmp 1), type := 22, pos := "ref.go:132", after := #[], guard := none }) (v := ?_) rfl (by kernel_rfl) (by kernel_rfl) (by kernel_rfl) (fun _ _ _ h => h) (Or.inl ⟨by rfl, ?_⟩) (by assumption) ?_
        rotate_left
        · intro W hSw; go_simp; try (with_reducible rfl)
        try simp only [Act.put, List.setIfInBounds_toArray, List.set_cons_zero, List.set_cons_succ]
        refine wpAnyH_take (i := 2) (oi := { dst := some 26, op := Op.move (Operand.tmp 5), type := 3, pos := "ref.go:132", after := #[], guard := none }) (v := ?_) rfl (by kernel_rfl) (by kernel_rfl) (by kernel_rfl) (fun _ _ _ h => h) (Or.inl ⟨by rfl, ?_⟩) (by assumption) ?_
        rotate_left
        · intro W hSw; go_simp; try (with_reducible rfl)
        try simp only [Act.put, List.setIfInBounds_toArray, List.set_cons_zero, List.set_cons_succ]
        refine wpAnyH_take (i := 3) (oi := { dst := some 27, op := Op.indexAddr 22 (Operand.tmp 25) (Operand.tmp 26), type := 0, pos := "ref.go:132", after := #[{ on := 1, ground := Ground.data }, { on := 2, ground := Ground.data }], guard := none }) (v := ?_) rfl (by kernel_rfl) (by kernel_rfl) (by kernel_rfl) (fun _ _ _ h => h) (Or.inl ⟨by rfl, ?_⟩) (by assumption) ?_
        rotate_left
        · intro W hSw; go_simp; try (with_reducible rfl)
        try simp only [Act.put, List.setIfInBounds_toArray, List.set_cons_zero, List.set_cons_succ]
        refine wpAnyH_take (i := 4) (oi := { dst := some 28, op := Op.fieldAddr 51 (Operand.tmp 27) 0, type := 0, pos := "ref.go:132", after := #[{ on := 3, ground := Ground.data }], guard := none }) (v := ?_) rfl (by kernel_rfl) (by kernel_rfl) (by kernel_rfl) (fun _ _ _ h => h) (Or.inl ⟨by rfl, ?_⟩) (by assumption) ?_
        rotate_left
        · intro W hSw; go_simp; try (with_reducible rfl)
        try simp only [Act.put, List.setIfInBounds_toArray, List.set_cons_zero, List.set_cons_succ]
        refine wpAnyH_take (i := 5) (oi := { dst := some 29, op := Op.load 9 (Operand.tmp 28), type := 9, pos := "ref.go:132", after := #[{ on := 4, ground := Ground.data }], guard := none }) (v := ?_) rfl (by kernel_rfl) (by kernel_rfl) (by kernel_rfl) (fun _ _ _ h => h) (Or.inl ⟨by rfl, ?_⟩) (by assumption) ?_
        rotate_left
        · intro W hSw; have hq := ((SB.b0 hSw).cell (p := ⟨b, off + k * 3, none⟩) hbs).trans hx'; go_simp; try (with_reducible rfl)
        try simp only [Act.put, List.setIfInBounds_toArray, List.set_cons_zero, List.set_cons_succ]
        refine wpAnyH_take (i := 6) (oi := { dst := some 30, op := Op.move (Operand.tmp 1), type := 22, pos := "ref.go:132", after := #[], guard := none }) (v := ?_) rfl (by kernel_rfl) (by kernel_rfl) (by kernel_rfl) (fun _ _ _ h => h) (Or.inl ⟨by rfl, ?_⟩) (by assumption) ?_
        rotate_left
        · intro W hSw; go_simp; try (with_reducible rfl)
        try simp only [Act.put, List.setIfInBounds_toArray, List.set_cons_zero, List.set_cons_succ]
        refine wpAnyH_take (i := 7) (oi := { dst := some 31, op := Op.move (Operand.tmp 5), type := 3, pos := "ref.go:132", after := #[], guard := none }) (v := ?_) rfl (by kernel_rfl) (by kernel_rfl) (by kernel_rfl) (fun _ _ _ h => h) (Or.inl ⟨by rfl, ?_⟩) (by assumption) ?_
        rotate_left
        · intro W hSw; go_simp; try (with_reducible rfl)
        try simp only [Act.put, List.setIfInBounds_toArray, List.set_cons_zero, List.set_cons_succ]
        refine wpAnyH_take (i := 8) (oi := { dst := some 32, op := Op.indexAddr 22 (Operand.tmp 30) (Operand.tmp 31), type := 0, pos := "ref.go:132", after := #[{ on := 6, ground := Ground.data }, { on := 7, ground := Ground.data }], guard := none }) (v := ?_) rfl (by kernel_rfl) (by kernel_rfl) (by kernel_rfl) (fun _ _ _ h => h) (Or.inl ⟨by rfl, ?_⟩) (by assumption) ?_
        rotate_left
        · intro W hSw; go_simp; try (with_reducible rfl)
        try simp only [Act.put, List.setIfInBounds_toArray, List.set_cons_zero, List.set_cons_succ]
        refine wpAnyH_take (i := 9) (oi := { dst := some 33, op := Op.fieldAddr 51 (Operand.tmp 32) 1, type := 0, pos := "ref.go:132", after := #[{ on := 8, ground := Ground.data }], guard := none }) (v := ?_) rfl (by kernel_rfl) (by kernel_rfl) (by kernel_rfl) (fun _ _ _ h => h) (Or.inl ⟨by rfl, ?_⟩) (by assumption) ?_
        rotate_left
        · intro W hSw; go_simp; try (with_reducible rfl)
        try simp only [Act.put, List.setIfInBounds_toArray, List.set_cons_zero, List.set_cons_succ]
        refine wpAnyH_take (i := 10) (oi := { dst := some 34, op := Op.load 23 (Operand.tmp 33), type := 23, pos := "ref.go:132", after := #[{ on := 9, ground := Ground.data }], guard := none }) (v := ?_) rfl (by kernel_rfl) (by kernel_rfl) (by kernel_rfl) (fun _ _ _ h => h) (Or.inl ⟨by rfl, ?_⟩) (by assumption) ?_
        rotate_left
        · intro W hSw; have hq := ((SB.b0 hSw).cell (p := ⟨b, off + k * 3 + 1, none⟩) hbs).trans hy'; go_simp; try (with_reducible rfl)
        try simp only [Act.put, List.setIfInBounds_toArray, List.set_cons_zero, List.set_cons_succ]
        refine wpAnyH_take (i := 11) (oi := { dst := some 35, op := Op.build 53 #[(0, Operand.tmp 29), (1, Operand.tmp 34)], type := 53, pos := "ref.go:132", after := #[{ on := 5, ground := Ground.data }, { on := 10, ground := Ground.data }], guard := none }) (v := ?_) rfl (by kernel_rfl) (by kernel_rfl) (by kernel_rfl) (fun _ _ _ h => h) (Or.inl ⟨by rfl, ?_⟩) (by assumption) ?_
        rotate_left
        · intro W hSw; go_simp; try (with_reducible rfl)
        try simp only [Act.put, List.setIfInBounds_toArray, List.set_cons_zero, List.set_cons_succ]
        refine wpAnyH_ready (rs := [12]) (by kernel_rfl) (by simp) ?_
        refine AllReadyH.cons (o := { dst := some 36, op := Op.call { callee := Callee.value (Operand.func 38), args := #[Operand.tmp 24, Operand.tmp 35], argTypes := #[34, 53] }, type := 34, pos := "ref.go:132", after := #[{ on := 0, ground := Ground.data }, { on := 11, ground := Ground.data }], guard := none }) rfl (fun K hK => ?_) AllReadyH.nil
        go_simp
        refine (H2.out _ (SB.b0 hHeld)).mono ?_
        rintro e w3 ⟨v3, rfl, h3, hbw3⟩
        obtain ⟨A3, c3, rfl, _, _⟩ := h3.shape
        try (go_wp2_with fail)
        have hHeld' := SB.step hHeld hbw3
        refine hK.out _ _ ?_ (fun _ => ?_)
        · exact hHeld'
        clear hK K
        try simp only [Act.put, List.setIfInBounds_toArray, List.set_cons_zero, List.set_cons_succ]
        have hHeld := SB.more hHeld'
        clear hHeld'
        refine wpAnyH_more (S' := SB [w3, Wo]) (fun W h => SB.less W h) _ _ _ _ ?_
        refine wpAnyH_take (i := 13) (oi := { dst := some 0, op := Op.assign (Operand.tmp 36), type := 34, pos := "ref.go:132", after := #[{ on := 12, ground := Ground.data }, { on := 12, ground := Ground.chain }, { on := 0, ground := Ground.phase }, { on := 1, ground := Ground.phase }, { on := 2, ground := Ground.phase }, { on := 3, ground := Ground.phase }, { on := 4, ground := Ground.phase }, { on := 5, ground := Ground.phase }, { on := 6, ground := Ground.phase }, { on := 7, ground := Ground.phase }, { on := 8, ground := Ground.phase }, { on := 9, ground := Ground.phase }, { on := 10, ground := Ground.phase }, { on := 11, ground := Ground.phase }, { on := 12, ground := Ground.phase }], guard := none }) (v := ?_) rfl (by kernel_rfl) (by kernel_rfl) (by kernel_rfl) (fun _ _ _ h => h) (Or.inl ⟨by rfl, ?_⟩) (by assumption) ?_
        rotate_left
        · intro W hSw; go_simp; try (with_reducible rfl)
        try simp only [Act.put, List.setIfInBounds_toArray, List.set_cons_zero]
        refine wpAnyH_done (by kernel_rfl) ?_ _
        have H3 := Lib.hid (h3.below (SB.b0 hHeld) (Nat.le_refl _))
        have HB3 := Lib.hid (HB.out.trans ((SB.b1 hHeld).mono HB.out.size))
        clear h3 hHeld hx' hy' hz' hxd hyd
        go_wp2
        go_roundw
        case rel => exact ⟨k + 1, by omega, by go_num, by rw [HST.out]; exact H3.out, HB3.out⟩
        case measure => simp [intOf]; omega
    · obtain rfl : k = cs.length := by omega
      rw [List.take_length] at hrv
      obtain ⟨Al, cl, rfl, _, _⟩ := hrv.shape
      have H3 := Lib.hid hrv
      have HB := Lib.hid hbel
      clear hrv hbel
      go_wp2
      go_ret
      exact ⟨_, rfl, H3.out, HB.out⟩
end Go.Proofs.Ytomkbgghljcbfaa
