/-
  ShaBits returns true, and changes nothing that was there, for any two slices of bytes, where the program's tables hold what they were laid with.
-/
import Derived.Test.YtbfemhhmijlmlaaDoorSumsW
namespace Go.Proofs.YtbfemhhmijlmlaaDoor
open Go.RowKit Go.Rst Go.Sha

theorem step_load_row' {P : Program} {ops : Array Oper} {o : Oper} {a : Act} {w : World} {K : Act → World → Prop} {Q : Exit → Act → World → Prop} {E : Prop} (hw : Region.wanted o (yielded ops a.tmps) = true) (ty : TypeId) (x : Operand) (ho : o.op = .load ty x)
    (g : Nat) (hx : a.eval x = .pointer (some ⟨g, 0, none⟩)) (t : TypeId) (cs : Array Value) (fr : Nat × Nat) (d : TypeDesc) (hg : w.heap[g]? = some (.cells cs t fr))
    (hu : P.underlying ty = some d) (hd : (match d with | .struct _ | .array _ _ => true | _ => false) = true) (hi : (P.info? ty).map (·.size) = some cs.size)
    (h : K (a.put o.dst (.agg cs)) w) : if Region.wanted o (yielded ops a.tmps) = true then Oper.wp P o a w K Q else E := by
  rw [if_pos hw]
  exact wp_load_row ty x ho g hx t cs fr d hg hu hd hi h
theorem str22 {w : World} {v : Value} {l : List UInt8} (h : RB w v l) : (convert 22 9 v).run Tryd.prog w = .ok (.string ⟨l.toArray⟩) w := h.str Tryd.underlying22 Tryd.underlying5 Tryd.underlying9

set_option maxRecDepth 100000 in
set_option maxHeartbeats 4000000 in
theorem bits_walk (v0 v1 : Value) (l r : List UInt8) (w : World) (h0 : RB w v0 l) (h1 : RB w v1 r) (s0 : l.length ≤ 140737488351232) (s1 : r.length ≤ 140737488351232) (hL : Laid w) :
    Calls Tryd.prog 5 #[v0, v1] w fun e w' => e = .returned (.bool true) ∧ Below w.heap.size w w' := by
  have H0 := Lib.hid h0
  have H1 := Lib.hid h1
  have HL := Lib.hid hL
  have HS0 := Lib.hid (fun (w' : World) (h : RB w' v0 l) => RB.src (P := Tryd.prog) (tx := 22) h Tryd.underlying22)
  have HS1 := Lib.hid (RB.src (P := Tryd.prog) (tx := 22) h1 Tryd.underlying22)
  obtain ⟨A0, c0, rfl, _, hc0, _⟩ := h0
  obtain ⟨A1, c1, rfl, _, hc1, _⟩ := h1
  obtain ⟨L, hLl⟩ : ∃ L, L = l.length := ⟨_, rfl⟩
  obtain ⟨M, hMr⟩ : ∃ M, M = r.length := ⟨_, rfl⟩
  rw [← hLl] at s0 HS0 ⊢
  rw [← hMr] at s1 HS1 ⊢
  have HLl := Lib.hid hLl
  have HMr := Lib.hid hMr
  clear hL hLl hMr hc0 hc1
  obtain ⟨Z, hZ⟩ : ∃ Z, Z = Array.replicate 32 (Value.int .u8 0) := ⟨_, rfl⟩
  have z24 := zero24
  rw [← hZ] at z24
  rw [← fillB_nil] at hZ
  have HZ := Lib.hid hZ
  clear hZ
  by_cases hbig : 400 < L + M
  · have hb : (400 : Int) < (L : Int) + (M : Int) := by omega
    go_enter Tryd.func5, Tryd.ntmps5
    go_wp2_with fail
    refine (known_any _ HL.out).mono ?_
    rintro e w1 ⟨rfl, hb⟩
    have HB := Lib.hid hb
    clear hb
    go_wp2
    go_ret
    exact ⟨rfl, HB.out⟩
  · have hb : ¬ (400 : Int) < (L : Int) + (M : Int) := by omega
    go_enter Tryd.func5, Tryd.ntmps5
    go_wp2_with (at_builtin; refine wpList_own rfl (.tmp 15) (.tmp 16) 22 22 rfl w.heap.size 5 (.int .u8 0) 1 1 Tryd.underlying22 info5 rfl rfl (World.ownsRow_nil _ _ _ _) rfl HS1.out (Below.refl w.heap.size w) (Nat.le_refl _) ?_ ?_ ?_ ?_)
    · unfold maxLen; omega
    · omega
    intro v3 w3 hown3 hbel3 _
    have HO3 := Lib.hid hown3
    have HB3 := Lib.hid hbel3
    have HS3 := Lib.hid (HS0.out w3 (by rw [HLl.out]; exact H0.out.below hbel3))
    clear hown3 hbel3
    go_wp2_with (at_builtin; refine wpList_own rfl (.tmp 18) (.tmp 19) 22 22 rfl w.heap.size 5 (.int .u8 0) 1 1 Tryd.underlying22 info5 rfl rfl HO3.out rfl HS3.out HB3.out (Nat.le_refl _) ?_ ?_ ?_ ?_)
    · unfold maxLen; omega
    · omega
    · exact HB3.out.size
    intro v4 w4 hown4 hbel4 _
    have HO4 := Lib.hid hown4
    have HB4 := Lib.hid hbel4
    clear hown4 hbel4 HO3 HB3 HS3
    go_wp2_with (at_builtin; refine wpList_own rfl (.tmp 21) (.tmp 22) 22 22 rfl w.heap.size 5 (.int .u8 0) 1 1 Tryd.underlying22 info5 rfl rfl (HO4.out.alloc _) rfl (src_one w4 Tryd.underlying22 5 (.int .u8 7) rfl) (HB4.out.alloc HB4.out.size _) (Nat.le_refl _) ?_ ?_ ?_ ?_)
    · unfold maxLen; omega
    · omega
    · have := HB4.out.size; simp; omega
    intro v5 w5 hown5 hbel5 _
    have hX : (r ++ l ++ [7]).length = M + L + 1 := by simp [HLl.out, HMr.out]; omega
    have hx5 : w5.ownsRow w.heap.size 5 1 v5 (M + L + 1) (bvs (r ++ l ++ [7])) := by
      rw [bvs_append, bvs_append, List.append_assoc]
      exact hown5
    obtain ⟨g5, c5, rfl, hc5, hm5⟩ := own_at hx5 (by omega)
    have hr5 : RB w5 (.slice (some ⟨g5, 0, none⟩) (r ++ l ++ [7]).length c5) (r ++ l ++ [7]) := RB.own (base := w.heap.size) (e := 5) (by rw [hX]; exact hx5)
    have hy := hr5.cut (q := M) (n := L) (by rw [hX]; omega)
    have hyl : ((r ++ l ++ [7]).drop M).take L = l := by
      rw [HMr.out, HLl.out, List.append_assoc, List.drop_left, List.take_left]
    rw [hyl, Nat.zero_add] at hy
    have hxp := own_cell hx5 (j := M + L) (x := .int .u8 7) (by
      rw [bvs_append, List.getElem?_append_right (by rw [bvs_length, List.length_append, ← HMr.out, ← HLl.out]; exact Nat.le_refl _)]
      rw [bvs_length, List.length_append, ← HMr.out, ← HLl.out, Nat.sub_self]
      rfl)
    have hg5 : g5 < w5.heap.size := (hx5.lt g5 rfl).2
    have hL5 := HL.out.below hbel5
    have hv5 := H0.out.below hbel5
    have hcall := sum_any _ l w5 hy (by rw [← HLl.out]; omega) hL5
    obtain ⟨D, hD⟩ : ∃ D, D = bva (sum l) := ⟨_, rfl⟩
    have e1 := eq_in (sum l) (sum_length l)
    have e2 := eq_agg (sum l) (sum_length l)
    have hcall2 : ∀ X, RB X (.slice A0 L c0) l → Laid X → Calls Tryd.prog 7 #[.slice A0 L c0] X fun e w' => e = .returned (.agg D) ∧ Below X.heap.size X w' :=
      fun X h9 h8 => by rw [hD]; exact sum_any _ l X h9 (by rw [← HLl.out]; omega) h8
    rw [← hD] at hcall e1 e2
    have hD8 : (Tryd.prog.info? 24).map (·.size) = some D.size := info24s (by rw [hD]; simp [bva, bvs, sum_length])
    have hZD : Z.size = D.size := by rw [HZ.out, fillB_size (by decide), hD]; simp [bva, bvs, sum_length]
    have hone : D.all (·.oneCell') = true := by rw [hD]; exact bva_oneCell _
    rw [← HLl.out] at hv5
    have HD8 := Lib.hid hD8
    have HZD := Lib.hid hZD
    have HON := Lib.hid hone
    have HC1 := Lib.hid hcall
    have HC2 := Lib.hid hcall2
    have HY5 := Lib.hid hy
    have HXP := Lib.hid hxp
    have HV5 := Lib.hid hv5
    have HL5 := Lib.hid hL5
    have HB5 := Lib.hid hbel5
    have HG5 := Lib.hid hg5
    have E1 := Lib.hid e1
    have E2 := Lib.hid e2
    have i0 : (0 : Int) ≤ (M : Int) := by omega
    have i1 : (M : Int) ≤ (M : Int) + (L : Int) := by omega
    have i2 : (M : Int) + (L : Int) ≤ (c5 : Int) := by omega
    have i3 : ¬ c5 = M := by omega
    have i4 : M + L - M = L := by omega
    clear hX hx5 hown5 hr5 hy hyl hxp hg5 hL5 hv5 hcall hD hcall2 hD8 hZD hone hbel5 e1 e2 HO4 HB4 hc5 hm5
    go_wp2_with fail
    refine HC1.out.mono ?_
    rintro e w6 ⟨rfl, hb6⟩
    have HB6 := Lib.hid hb6
    clear hb6
    go_wp2_with (refine wpList_store_row rfl 24 (.tmp 7) (.tmp 34) rfl w6.heap.size D rfl rfl 24 Z (heap_alloc_new _ _) HD8.out HZD.out HON.out ?_)
    obtain ⟨W9, hW9⟩ : ∃ W9, W9 = (w6.alloc (Obj.cells Z 24)).setRow w6.heap.size D := ⟨_, rfl⟩
    rw [← hW9]
    obtain ⟨g7, hg7⟩ : ∃ g7, g7 = w6.heap.size := ⟨_, rfl⟩
    rw [← hg7]
    have h7 : Blk W9 g7 24 D := by
      rw [hW9, hg7]
      exact setRow_heap _ _ _ _ _ _ (heap_alloc_new _ _)
    have hb9 : Below w5.heap.size w5 W9 := by
      rw [hW9]
      exact (HB6.out.alloc HB6.out.size _).trans (setRow_bel _ _ _ HB6.out.size)
    have hy9 := HY5.out.below hb9
    have hv9 := HV5.out.below hb9
    have hL9 := HL5.out.below hb9
    have xp : W9.cell? ⟨g5, M + L, none⟩ = some (.int .u8 7) := (hb9.cell (p := ⟨g5, M + L, none⟩) HG5.out).trans HXP.out
    have hg5 : g5 < W9.heap.size := Nat.lt_of_lt_of_le HG5.out hb9.size
    have hb0 : Below w.heap.size w W9 := HB5.out.trans (hb9.mono HB5.out.size)
    have hc9 : ∀ X, Below W9.heap.size W9 X → Calls Tryd.prog 7 #[.slice A0 L c0] X fun e w' => e = .returned (.agg D) ∧ Below X.heap.size X w' :=
      fun X h => HC2.out X (hv9.below h) (hL9.below h)
    have H7 := Lib.hid h7
    have HY := Lib.hid hy9
    have HV := Lib.hid hv9
    have HL9 := Lib.hid hL9
    have HB9 := Lib.hid hb0
    have HC := Lib.hid hc9
    have e1 := E1.out
    have e2 := E2.out
    obtain ⟨p, hp⟩ : ∃ p, p = M + L := ⟨_, rfl⟩
    rw [← hp] at xp ⊢
    have k1 : IntKind.i64.wrap (p : Int) = (p : Int) := by rw [IntKind.wrap_i64]; omega
    have k2 : (0 : Int) ≤ (p : Int) := by omega
    have k3 : (p : Int) < (p : Int) + 1 := by omega
    clear hW9 hg7 h7 hb9 hy9 hv9 hL9 hb0 hc9 hp HC1 HC2 HY5 HXP HV5 HL5 HB5 HG5 E1 E2 HB6 i0 i1 i2 i3 i4 z24
    go_wp2
    refine wp_region_held_drew (S := fun X => Below W9.heap.size W9 X) (by kernel_rfl) (Below.refl _ _).drew (fun hHeld => ?_)
    refine wpAnyH_ready (rs := [0]) (by kernel_rfl) (by simp) ?_
    refine AllReadyH.cons (o := { dst := some 35, op := Op.call { callee := Callee.value (Operand.func 6), args := #[], argTypes := #[] }, type := 4, pos := "more.go:18", after := #[], guard := none }) rfl (fun K hK => ?_) AllReadyH.nil
    go_simp
    refine (known_any _ (HL9.out.below hHeld)).mono ?_
    rintro x w1 ⟨rfl, hbw1⟩
    try (go_wp2_with fail)
    have hHeld' := hHeld.trans (hbw1.mono hHeld.size)
    refine hK.out _ _ ?_ (fun _ => ?_)
    · exact hHeld'
    clear hK K hHeld
    have hHeld := hHeld'
    clear hHeld'
    try simp only [Act.put, List.setIfInBounds_toArray, List.set_cons_zero, List.set_cons_succ]
    refine wpAnyH_take (i := 1) (oi := { dst := some 36, op := Op.move (Operand.tmp 35), type := 4, pos := "more.go:18", after := #[{ on := 0, ground := Ground.data }, { on := 0, ground := Ground.chain }], guard := none }) (v := ?_) rfl (by kernel_rfl) (by kernel_rfl) (by kernel_rfl) (fun _ _ _ h => h) (Or.inl ⟨by rfl, ?_⟩) (by assumption) ?_
    rotate_left
    · intro X hSw; go_simp; try (with_reducible rfl)
    try simp only [Act.put, List.setIfInBounds_toArray, List.set_cons_zero, List.set_cons_succ]
    refine wpAnyH_take (i := 3) (oi := { dst := some 38, op := Op.move (Operand.tmp 0), type := 22, pos := "more.go:18", after := #[{ on := 1, ground := Ground.guard }], guard := some (1, true) }) (v := ?_) rfl (by kernel_rfl) (by kernel_rfl) (by kernel_rfl) (fun _ _ _ h => h) (Or.inl ⟨by rfl, ?_⟩) (by assumption) ?_
    rotate_left
    · intro X hSw; go_simp; try (with_reducible rfl)
    try simp only [Act.put, List.setIfInBounds_toArray, List.set_cons_zero, List.set_cons_succ]
    refine wpAnyH_ready (rs := [2, 4]) (by kernel_rfl) (by simp) ?_
    refine AllReadyH.cons (o := { dst := some 37, op := Op.load 24 (Operand.tmp 7), type := 24, pos := "more.go:18", after := #[{ on := 1, ground := Ground.guard }], guard := some (1, true) }) rfl (fun K hK => ?_) (AllReadyH.cons (o := { dst := some 39, op := Op.call { callee := Callee.value (Operand.func 7), args := #[Operand.tmp 38], argTypes := #[22] }, type := 24, pos := "more.go:18", after := #[{ on := 3, ground := Ground.data }, { on := 1, ground := Ground.chain }, { on := 1, ground := Ground.guard }], guard := some (1, true) }) rfl (fun K hK => ?_) AllReadyH.nil)
    · refine step_load_row' (by rfl) 24 (.tmp 7) (by rfl) g7 (by rfl) 24 D (0, 0) _ (Blk.below (w := W9) H7.out hHeld H7.out.lt) Tryd.underlying24 rfl HD8.out ?_
      refine hK.out _ _ ?_ (fun _ => ?_)
      · exact hHeld
      clear hK K
      try simp only [Act.put, List.setIfInBounds_toArray, List.set_cons_zero, List.set_cons_succ]
      refine wpAnyH_ready (rs := [4]) (by kernel_rfl) (by simp) ?_
      refine AllReadyH.cons (o := { dst := some 39, op := Op.call { callee := Callee.value (Operand.func 7), args := #[Operand.tmp 38], argTypes := #[22] }, type := 24, pos := "more.go:18", after := #[{ on := 3, ground := Ground.data }, { on := 1, ground := Ground.chain }, { on := 1, ground := Ground.guard }], guard := some (1, true) }) rfl (fun K hK => ?_) AllReadyH.nil
      go_simp
      refine (HC.out _ hHeld).mono ?_
      rintro x w2 ⟨rfl, hbw2⟩
      try (go_wp2_with fail)
      have hHeld' := hHeld.trans (hbw2.mono hHeld.size)
      refine hK.out _ _ ?_ (fun _ => ?_)
      · exact hHeld'
      clear hK K hHeld
      have hHeld := hHeld'
      clear hHeld'
      try simp only [Act.put, List.setIfInBounds_toArray, List.set_cons_zero, List.set_cons_succ]
      refine wpAnyH_take (i := 5) (oi := { dst := some 40, op := Op.binOp BinOp.eql 24 (Operand.tmp 37) (Operand.tmp 39) 24, type := 4, pos := "more.go:18", after := #[{ on := 2, ground := Ground.data }, { on := 4, ground := Ground.data }, { on := 1, ground := Ground.guard }], guard := some (1, true) }) (v := ?_) rfl (by kernel_rfl) (by kernel_rfl) (by kernel_rfl) (fun _ _ _ h => h) (Or.inl ⟨by rfl, ?_⟩) (by assumption) ?_
      rotate_left
      · intro X hSw; go_simp; try (with_reducible rfl)
      try simp only [Act.put, List.setIfInBounds_toArray, List.set_cons_zero, List.set_cons_succ]
      refine wpAnyH_take (i := 6) (oi := { dst := some 41, op := Op.pick (Operand.tmp 36) (Operand.tmp 40) (Operand.const (Value.bool false)), type := 4, pos := "more.go:18", after := #[{ on := 1, ground := Ground.data }, { on := 5, ground := Ground.data }], guard := none }) (v := ?_) rfl (by kernel_rfl) (by kernel_rfl) (by kernel_rfl) (fun _ _ _ h => h) (Or.inl ⟨by rfl, ?_⟩) (by assumption) ?_
      rotate_left
      · intro X hSw; go_simp; try (with_reducible rfl)
      try simp only [Act.put, List.setIfInBounds_toArray, List.set_cons_zero, List.set_cons_succ]
      refine wpAnyH_take (i := 7) (oi := { dst := some 42, op := Op.move (Operand.tmp 41), type := 4, pos := "more.go:18", after := #[{ on := 6, ground := Ground.data }, { on := 4, ground := Ground.chain }], guard := none }) (v := ?_) rfl (by kernel_rfl) (by kernel_rfl) (by kernel_rfl) (fun _ _ _ h => h) (Or.inl ⟨by rfl, ?_⟩) (by assumption) ?_
      rotate_left
      · intro X hSw; go_simp; try (with_reducible rfl)
      try simp only [Act.put, List.setIfInBounds_toArray, List.set_cons_zero, List.set_cons_succ]
      refine wpAnyH_take (i := 8) (oi := { dst := some 43, op := Op.move (Operand.tmp 6), type := 22, pos := "more.go:18", after := #[{ on := 7, ground := Ground.guard }], guard := some (7, true) }) (v := ?_) rfl (by kernel_rfl) (by kernel_rfl) (by kernel_rfl) (fun _ _ _ h => h) (Or.inl ⟨by rfl, ?_⟩) (by assumption) ?_
      rotate_left
      · intro X hSw; go_simp; try (with_reducible rfl)
      try simp only [Act.put, List.setIfInBounds_toArray, List.set_cons_zero, List.set_cons_succ]
      refine wpAnyH_take (i := 9) (oi := { dst := some 44, op := Op.convert 22 9 (Operand.tmp 43), type := 9, pos := "more.go:18", after := #[{ on := 8, ground := Ground.data }, { on := 7, ground := Ground.guard }], guard := some (7, true) }) (v := ?_) rfl (by kernel_rfl) (by kernel_rfl) (by kernel_rfl) (fun _ _ _ h => h) (Or.inl ⟨by rfl, ?_⟩) (by assumption) ?_
      rotate_left
      · intro X hSw; have hq := str22 (HY.out.below hSw); go_simp; try (with_reducible rfl)
      try simp only [Act.put, List.setIfInBounds_toArray, List.set_cons_zero, List.set_cons_succ]
      refine wpAnyH_take (i := 10) (oi := { dst := some 45, op := Op.move (Operand.tmp 0), type := 22, pos := "more.go:18", after := #[{ on := 7, ground := Ground.guard }], guard := some (7, true) }) (v := ?_) rfl (by kernel_rfl) (by kernel_rfl) (by kernel_rfl) (fun _ _ _ h => h) (Or.inl ⟨by rfl, ?_⟩) (by assumption) ?_
      rotate_left
      · intro X hSw; go_simp; try (with_reducible rfl)
      try simp only [Act.put, List.setIfInBounds_toArray, List.set_cons_zero, List.set_cons_succ]
      refine wpAnyH_take (i := 11) (oi := { dst := some 46, op := Op.convert 22 9 (Operand.tmp 45), type := 9, pos := "more.go:18", after := #[{ on := 10, ground := Ground.data }, { on := 7, ground := Ground.guard }], guard := some (7, true) }) (v := ?_) rfl (by kernel_rfl) (by kernel_rfl) (by kernel_rfl) (fun _ _ _ h => h) (Or.inl ⟨by rfl, ?_⟩) (by assumption) ?_
      rotate_left
      · intro X hSw; have hq := str22 (HV.out.below hSw); go_simp; try (with_reducible rfl)
      try simp only [Act.put, List.setIfInBounds_toArray, List.set_cons_zero, List.set_cons_succ]
      refine wpAnyH_take (i := 12) (oi := { dst := some 47, op := Op.binOp BinOp.eql 9 (Operand.tmp 44) (Operand.tmp 46) 9, type := 4, pos := "more.go:18", after := #[{ on := 9, ground := Ground.data }, { on := 11, ground := Ground.data }, { on := 7, ground := Ground.guard }], guard := some (7, true) }) (v := ?_) rfl (by kernel_rfl) (by kernel_rfl) (by kernel_rfl) (fun _ _ _ h => h) (Or.inl ⟨by rfl, ?_⟩) (by assumption) ?_
      rotate_left
      · intro X hSw; go_simp; try (with_reducible rfl)
      try simp only [Act.put, List.setIfInBounds_toArray, List.set_cons_zero, List.set_cons_succ]
      refine wpAnyH_take (i := 13) (oi := { dst := some 48, op := Op.pick (Operand.tmp 42) (Operand.tmp 47) (Operand.const (Value.bool false)), type := 4, pos := "more.go:18", after := #[{ on := 7, ground := Ground.data }, { on := 12, ground := Ground.data }], guard := none }) (v := ?_) rfl (by kernel_rfl) (by kernel_rfl) (by kernel_rfl) (fun _ _ _ h => h) (Or.inl ⟨by rfl, ?_⟩) (by assumption) ?_
      rotate_left
      · intro X hSw; go_simp; try (with_reducible rfl)
      try simp only [Act.put, List.setIfInBounds_toArray, List.set_cons_zero, List.set_cons_succ]
      refine wpAnyH_take (i := 14) (oi := { dst := some 49, op := Op.move (Operand.tmp 48), type := 4, pos := "more.go:18", after := #[{ on := 13, ground := Ground.data }, { on := 7, ground := Ground.chain }], guard := none }) (v := ?_) rfl (by kernel_rfl) (by kernel_rfl) (by kernel_rfl) (fun _ _ _ h => h) (Or.inl ⟨by rfl, ?_⟩) (by assumption) ?_
      rotate_left
      · intro X hSw; go_simp; try (with_reducible rfl)
      try simp only [Act.put, List.setIfInBounds_toArray, List.set_cons_zero, List.set_cons_succ]
      refine wpAnyH_take (i := 15) (oi := { dst := some 50, op := Op.move (Operand.tmp 5), type := 22, pos := "more.go:18", after := #[{ on := 14, ground := Ground.guard }], guard := some (14, true) }) (v := ?_) rfl (by kernel_rfl) (by kernel_rfl) (by kernel_rfl) (fun _ _ _ h => h) (Or.inl ⟨by rfl, ?_⟩) (by assumption) ?_
      rotate_left
      · intro X hSw; go_simp; try (with_reducible rfl)
      try simp only [Act.put, List.setIfInBounds_toArray, List.set_cons_zero, List.set_cons_succ]
      refine wpAnyH_take (i := 16) (oi := { dst := some 51, op := Op.move (Operand.tmp 5), type := 22, pos := "more.go:18", after := #[{ on := 14, ground := Ground.guard }], guard := some (14, true) }) (v := ?_) rfl (by kernel_rfl) (by kernel_rfl) (by kernel_rfl) (fun _ _ _ h => h) (Or.inl ⟨by rfl, ?_⟩) (by assumption) ?_
      rotate_left
      · intro X hSw; go_simp; try (with_reducible rfl)
      try simp only [Act.put, List.setIfInBounds_toArray, List.set_cons_zero, List.set_cons_succ]
      refine wpAnyH_take (i := 17) (oi := { dst := some 52, op := Op.call { callee := Callee.builtin Builtin.len, args := #[Operand.tmp 51], argTypes := #[22] }, type := 3, pos := "more.go:18", after := #[{ on := 16, ground := Ground.data }, { on := 14, ground := Ground.guard }], guard := some (14, true) }) (v := ?_) rfl (by kernel_rfl) (by kernel_rfl) (by kernel_rfl) (fun _ _ _ h => h) (Or.inl ⟨by rfl, ?_⟩) (by assumption) ?_
      rotate_left
      · intro X hSw; go_simp; try (with_reducible rfl)
      try simp only [Act.put, List.setIfInBounds_toArray, List.set_cons_zero, List.set_cons_succ]
      refine wpAnyH_take (i := 18) (oi := { dst := some 53, op := Op.binOp BinOp.sub 3 (Operand.tmp 52) (Operand.const (Value.int IntKind.i64 1)) 3, type := 3, pos := "more.go:18", after := #[{ on := 17, ground := Ground.data }, { on := 14, ground := Ground.guard }], guard := some (14, true) }) (v := ?_) rfl (by kernel_rfl) (by kernel_rfl) (by kernel_rfl) (fun _ _ _ h => h) (Or.inl ⟨by rfl, ?_⟩) (by assumption) ?_
      rotate_left
      · intro X hSw; go_simp; try (with_reducible rfl)
      try simp only [Act.put, List.setIfInBounds_toArray, List.set_cons_zero, List.set_cons_succ]
      refine wpAnyH_take (i := 19) (oi := { dst := some 54, op := Op.indexAddr 22 (Operand.tmp 50) (Operand.tmp 53), type := 0, pos := "more.go:18", after := #[{ on := 15, ground := Ground.data }, { on := 18, ground := Ground.data }, { on := 14, ground := Ground.guard }], guard := some (14, true) }) (v := ?_) rfl (by kernel_rfl) (by kernel_rfl) (by kernel_rfl) (fun _ _ _ h => h) (Or.inl ⟨by rfl, ?_⟩) (by assumption) ?_
      rotate_left
      · intro X hSw; go_simp; try (with_reducible rfl)
      try simp only [Act.put, List.setIfInBounds_toArray, List.set_cons_zero, List.set_cons_succ]
      refine wpAnyH_take (i := 20) (oi := { dst := some 55, op := Op.load 5 (Operand.tmp 54), type := 5, pos := "more.go:18", after := #[{ on := 19, ground := Ground.data }, { on := 14, ground := Ground.guard }], guard := some (14, true) }) (v := ?_) rfl (by kernel_rfl) (by kernel_rfl) (by kernel_rfl) (fun _ _ _ h => h) (Or.inl ⟨by rfl, ?_⟩) (by assumption) ?_
      rotate_left
      · intro X hSw; have hq := (hSw.cell (p := ⟨g5, p, none⟩) hg5).trans xp; go_simp; try (with_reducible rfl)
      try simp only [Act.put, List.setIfInBounds_toArray, List.set_cons_zero, List.set_cons_succ]
      refine wpAnyH_take (i := 21) (oi := { dst := some 56, op := Op.binOp BinOp.eql 5 (Operand.tmp 55) (Operand.const (Value.int IntKind.u8 7)) 5, type := 4, pos := "more.go:18", after := #[{ on := 20, ground := Ground.data }, { on := 14, ground := Ground.guard }], guard := some (14, true) }) (v := ?_) rfl (by kernel_rfl) (by kernel_rfl) (by kernel_rfl) (fun _ _ _ h => h) (Or.inl ⟨by rfl, ?_⟩) (by assumption) ?_
      rotate_left
      · intro X hSw; go_simp; try (with_reducible rfl)
      try simp only [Act.put, List.setIfInBounds_toArray, List.set_cons_zero, List.set_cons_succ]
      refine wpAnyH_take (i := 22) (oi := { dst := some 57, op := Op.pick (Operand.tmp 49) (Operand.tmp 56) (Operand.const (Value.bool false)), type := 4, pos := "more.go:18", after := #[{ on := 14, ground := Ground.data }, { on := 21, ground := Ground.data }], guard := none }) (v := ?_) rfl (by kernel_rfl) (by kernel_rfl) (by kernel_rfl) (fun _ _ _ h => h) (Or.inl ⟨by rfl, ?_⟩) (by assumption) ?_
      rotate_left
      · intro X hSw; go_simp; try (with_reducible rfl)
      try simp only [Act.put, List.setIfInBounds_toArray, List.set_cons_zero, List.set_cons_succ]
      refine wpAnyH_take (i := 23) (oi := { dst := some 4, op := Op.assign (Operand.tmp 57), type := 4, pos := "more.go:18", after := #[{ on := 22, ground := Ground.data }, { on := 14, ground := Ground.chain }, { on := 0, ground := Ground.phase }, { on := 1, ground := Ground.phase }, { on := 2, ground := Ground.phase }, { on := 3, ground := Ground.phase }, { on := 4, ground := Ground.phase }, { on := 5, ground := Ground.phase }, { on := 6, ground := Ground.phase }, { on := 7, ground := Ground.phase }, { on := 8, ground := Ground.phase }, { on := 9, ground := Ground.phase }, { on := 10, ground := Ground.phase }, { on := 11, ground := Ground.phase }, { on := 12, ground := Ground.phase }, { on := 13, ground := Ground.phase }, { on := 14, ground := Ground.phase }, { on := 15, ground := Ground.phase }, { on := 16, ground := Ground.phase }, { on := 17, ground := Ground.phase }, { on := 18, ground := Ground.phase }, { on := 19, ground := Ground.phase }, { on := 20, ground := Ground.phase }, { on := 21, ground := Ground.phase }, { on := 22, ground := Ground.phase }], guard := none }) (v := ?_) rfl (by kernel_rfl) (by kernel_rfl) (by kernel_rfl) (fun _ _ _ h => h) (Or.inl ⟨by rfl, ?_⟩) (by assumption) ?_
      rotate_left
      · intro X hSw; go_simp; try (with_reducible rfl)
      try simp only [Act.put, List.setIfInBounds_toArray, List.set_cons_zero, List.set_cons_succ]
      refine wpAnyH_done (by kernel_rfl) ?_ _
      go_wp2
      go_ret
      exact ⟨rfl, HB9.out.trans (hHeld.mono HB9.out.size)⟩
    · go_simp
      refine (HC.out _ hHeld).mono ?_
      rintro x w2 ⟨rfl, hbw2⟩
      try (go_wp2_with fail)
      have hHeld' := hHeld.trans (hbw2.mono hHeld.size)
      refine hK.out _ _ ?_ (fun _ => ?_)
      · exact hHeld'
      clear hK K hHeld
      have hHeld := hHeld'
      clear hHeld'
      try simp only [Act.put, List.setIfInBounds_toArray, List.set_cons_zero, List.set_cons_succ]
      refine wpAnyH_ready (rs := [2]) (by kernel_rfl) (by simp) ?_
      refine AllReadyH.cons (o := { dst := some 37, op := Op.load 24 (Operand.tmp 7), type := 24, pos := "more.go:18", after := #[{ on := 1, ground := Ground.guard }], guard := some (1, true) }) rfl (fun K hK => ?_) AllReadyH.nil
      refine step_load_row' (by rfl) 24 (.tmp 7) (by rfl) g7 (by rfl) 24 D (0, 0) _ (Blk.below (w := W9) H7.out hHeld H7.out.lt) Tryd.underlying24 rfl HD8.out ?_
      refine hK.out _ _ ?_ (fun _ => ?_)
      · exact hHeld
      clear hK K
      try simp only [Act.put, List.setIfInBounds_toArray, List.set_cons_zero, List.set_cons_succ]
      refine wpAnyH_take (i := 5) (oi := { dst := some 40, op := Op.binOp BinOp.eql 24 (Operand.tmp 37) (Operand.tmp 39) 24, type := 4, pos := "more.go:18", after := #[{ on := 2, ground := Ground.data }, { on := 4, ground := Ground.data }, { on := 1, ground := Ground.guard }], guard := some (1, true) }) (v := ?_) rfl (by kernel_rfl) (by kernel_rfl) (by kernel_rfl) (fun _ _ _ h => h) (Or.inl ⟨by rfl, ?_⟩) (by assumption) ?_
      rotate_left
      · intro X hSw; go_simp; try (with_reducible rfl)
      try simp only [Act.put, List.setIfInBounds_toArray, List.set_cons_zero, List.set_cons_succ]
      refine wpAnyH_take (i := 6) (oi := { dst := some 41, op := Op.pick (Operand.tmp 36) (Operand.tmp 40) (Operand.const (Value.bool false)), type := 4, pos := "more.go:18", after := #[{ on := 1, ground := Ground.data }, { on := 5, ground := Ground.data }], guard := none }) (v := ?_) rfl (by kernel_rfl) (by kernel_rfl) (by kernel_rfl) (fun _ _ _ h => h) (Or.inl ⟨by rfl, ?_⟩) (by assumption) ?_
      rotate_left
      · intro X hSw; go_simp; try (with_reducible rfl)
      try simp only [Act.put, List.setIfInBounds_toArray, List.set_cons_zero, List.set_cons_succ]
      refine wpAnyH_take (i := 7) (oi := { dst := some 42, op := Op.move (Operand.tmp 41), type := 4, pos := "more.go:18", after := #[{ on := 6, ground := Ground.data }, { on := 4, ground := Ground.chain }], guard := none }) (v := ?_) rfl (by kernel_rfl) (by kernel_rfl) (by kernel_rfl) (fun _ _ _ h => h) (Or.inl ⟨by rfl, ?_⟩) (by assumption) ?_
      rotate_left
      · intro X hSw; go_simp; try (with_reducible rfl)
      try simp only [Act.put, List.setIfInBounds_toArray, List.set_cons_zero, List.set_cons_succ]
      refine wpAnyH_take (i := 8) (oi := { dst := some 43, op := Op.move (Operand.tmp 6), type := 22, pos := "more.go:18", after := #[{ on := 7, ground := Ground.guard }], guard := some (7, true) }) (v := ?_) rfl (by kernel_rfl) (by kernel_rfl) (by kernel_rfl) (fun _ _ _ h => h) (Or.inl ⟨by rfl, ?_⟩) (by assumption) ?_
      rotate_left
      · intro X hSw; go_simp; try (with_reducible rfl)
      try simp only [Act.put, List.setIfInBounds_toArray, List.set_cons_zero, List.set_cons_succ]
      refine wpAnyH_take (i := 9) (oi := { dst := some 44, op := Op.convert 22 9 (Operand.tmp 43), type := 9, pos := "more.go:18", after := #[{ on := 8, ground := Ground.data }, { on := 7, ground := Ground.guard }], guard := some (7, true) }) (v := ?_) rfl (by kernel_rfl) (by kernel_rfl) (by kernel_rfl) (fun _ _ _ h => h) (Or.inl ⟨by rfl, ?_⟩) (by assumption) ?_
      rotate_left
      · intro X hSw; have hq := str22 (HY.out.below hSw); go_simp; try (with_reducible rfl)
      try simp only [Act.put, List.setIfInBounds_toArray, List.set_cons_zero, List.set_cons_succ]
      refine wpAnyH_take (i := 10) (oi := { dst := some 45, op := Op.move (Operand.tmp 0), type := 22, pos := "more.go:18", after := #[{ on := 7, ground := Ground.guard }], guard := some (7, true) }) (v := ?_) rfl (by kernel_rfl) (by kernel_rfl) (by kernel_rfl) (fun _ _ _ h => h) (Or.inl ⟨by rfl, ?_⟩) (by assumption) ?_
      rotate_left
      · intro X hSw; go_simp; try (with_reducible rfl)
      try simp only [Act.put, List.setIfInBounds_toArray, List.set_cons_zero, List.set_cons_succ]
      refine wpAnyH_take (i := 11) (oi := { dst := some 46, op := Op.convert 22 9 (Operand.tmp 45), type := 9, pos := "more.go:18", after := #[{ on := 10, ground := Ground.data }, { on := 7, ground := Ground.guard }], guard := some (7, true) }) (v := ?_) rfl (by kernel_rfl) (by kernel_rfl) (by kernel_rfl) (fun _ _ _ h => h) (Or.inl ⟨by rfl, ?_⟩) (by assumption) ?_
      rotate_left
      · intro X hSw; have hq := str22 (HV.out.below hSw); go_simp; try (with_reducible rfl)
      try simp only [Act.put, List.setIfInBounds_toArray, List.set_cons_zero, List.set_cons_succ]
      refine wpAnyH_take (i := 12) (oi := { dst := some 47, op := Op.binOp BinOp.eql 9 (Operand.tmp 44) (Operand.tmp 46) 9, type := 4, pos := "more.go:18", after := #[{ on := 9, ground := Ground.data }, { on := 11, ground := Ground.data }, { on := 7, ground := Ground.guard }], guard := some (7, true) }) (v := ?_) rfl (by kernel_rfl) (by kernel_rfl) (by kernel_rfl) (fun _ _ _ h => h) (Or.inl ⟨by rfl, ?_⟩) (by assumption) ?_
      rotate_left
      · intro X hSw; go_simp; try (with_reducible rfl)
      try simp only [Act.put, List.setIfInBounds_toArray, List.set_cons_zero, List.set_cons_succ]
      refine wpAnyH_take (i := 13) (oi := { dst := some 48, op := Op.pick (Operand.tmp 42) (Operand.tmp 47) (Operand.const (Value.bool false)), type := 4, pos := "more.go:18", after := #[{ on := 7, ground := Ground.data }, { on := 12, ground := Ground.data }], guard := none }) (v := ?_) rfl (by kernel_rfl) (by kernel_rfl) (by kernel_rfl) (fun _ _ _ h => h) (Or.inl ⟨by rfl, ?_⟩) (by assumption) ?_
      rotate_left
      · intro X hSw; go_simp; try (with_reducible rfl)
      try simp only [Act.put, List.setIfInBounds_toArray, List.set_cons_zero, List.set_cons_succ]
      refine wpAnyH_take (i := 14) (oi := { dst := some 49, op := Op.move (Operand.tmp 48), type := 4, pos := "more.go:18", after := #[{ on := 13, ground := Ground.data }, { on := 7, ground := Ground.chain }], guard := none }) (v := ?_) rfl (by kernel_rfl) (by kernel_rfl) (by kernel_rfl) (fun _ _ _ h => h) (Or.inl ⟨by rfl, ?_⟩) (by assumption) ?_
      rotate_left
      · intro X hSw; go_simp; try (with_reducible rfl)
      try simp only [Act.put, List.setIfInBounds_toArray, List.set_cons_zero, List.set_cons_succ]
      refine wpAnyH_take (i := 15) (oi := { dst := some 50, op := Op.move (Operand.tmp 5), type := 22, pos := "more.go:18", after := #[{ on := 14, ground := Ground.guard }], guard := some (14, true) }) (v := ?_) rfl (by kernel_rfl) (by kernel_rfl) (by kernel_rfl) (fun _ _ _ h => h) (Or.inl ⟨by rfl, ?_⟩) (by assumption) ?_
      rotate_left
      · intro X hSw; go_simp; try (with_reducible rfl)
      try simp only [Act.put, List.setIfInBounds_toArray, List.set_cons_zero, List.set_cons_succ]
      refine wpAnyH_take (i := 16) (oi := { dst := some 51, op := Op.move (Operand.tmp 5), type := 22, pos := "more.go:18", after := #[{ on := 14, ground := Ground.guard }], guard := some (14, true) }) (v := ?_) rfl (by kernel_rfl) (by kernel_rfl) (by kernel_rfl) (fun _ _ _ h => h) (Or.inl ⟨by rfl, ?_⟩) (by assumption) ?_
      rotate_left
      · intro X hSw; go_simp; try (with_reducible rfl)
      try simp only [Act.put, List.setIfInBounds_toArray, List.set_cons_zero, List.set_cons_succ]
      refine wpAnyH_take (i := 17) (oi := { dst := some 52, op := Op.call { callee := Callee.builtin Builtin.len, args := #[Operand.tmp 51], argTypes := #[22] }, type := 3, pos := "more.go:18", after := #[{ on := 16, ground := Ground.data }, { on := 14, ground := Ground.guard }], guard := some (14, true) }) (v := ?_) rfl (by kernel_rfl) (by kernel_rfl) (by kernel_rfl) (fun _ _ _ h => h) (Or.inl ⟨by rfl, ?_⟩) (by assumption) ?_
      rotate_left
      · intro X hSw; go_simp; try (with_reducible rfl)
      try simp only [Act.put, List.setIfInBounds_toArray, List.set_cons_zero, List.set_cons_succ]
      refine wpAnyH_take (i := 18) (oi := { dst := some 53, op := Op.binOp BinOp.sub 3 (Operand.tmp 52) (Operand.const (Value.int IntKind.i64 1)) 3, type := 3, pos := "more.go:18", after := #[{ on := 17, ground := Ground.data }, { on := 14, ground := Ground.guard }], guard := some (14, true) }) (v := ?_) rfl (by kernel_rfl) (by kernel_rfl) (by kernel_rfl) (fun _ _ _ h => h) (Or.inl ⟨by rfl, ?_⟩) (by assumption) ?_
      rotate_left
      · intro X hSw; go_simp; try (with_reducible rfl)
      try simp only [Act.put, List.setIfInBounds_toArray, List.set_cons_zero, List.set_cons_succ]
      refine wpAnyH_take (i := 19) (oi := { dst := some 54, op := Op.indexAddr 22 (Operand.tmp 50) (Operand.tmp 53), type := 0, pos := "more.go:18", after := #[{ on := 15, ground := Ground.data }, { on := 18, ground := Ground.data }, { on := 14, ground := Ground.guard }], guard := some (14, true) }) (v := ?_) rfl (by kernel_rfl) (by kernel_rfl) (by kernel_rfl) (fun _ _ _ h => h) (Or.inl ⟨by rfl, ?_⟩) (by assumption) ?_
      rotate_left
      · intro X hSw; go_simp; try (with_reducible rfl)
      try simp only [Act.put, List.setIfInBounds_toArray, List.set_cons_zero, List.set_cons_succ]
      refine wpAnyH_take (i := 20) (oi := { dst := some 55, op := Op.load 5 (Operand.tmp 54), type := 5, pos := "more.go:18", after := #[{ on := 19, ground := Ground.data }, { on := 14, ground := Ground.guard }], guard := some (14, true) }) (v := ?_) rfl (by kernel_rfl) (by kernel_rfl) (by kernel_rfl) (fun _ _ _ h => h) (Or.inl ⟨by rfl, ?_⟩) (by assumption) ?_
      rotate_left
      · intro X hSw; have hq := (hSw.cell (p := ⟨g5, p, none⟩) hg5).trans xp; go_simp; try (with_reducible rfl)
      try simp only [Act.put, List.setIfInBounds_toArray, List.set_cons_zero, List.set_cons_succ]
      refine wpAnyH_take (i := 21) (oi := { dst := some 56, op := Op.binOp BinOp.eql 5 (Operand.tmp 55) (Operand.const (Value.int IntKind.u8 7)) 5, type := 4, pos := "more.go:18", after := #[{ on := 20, ground := Ground.data }, { on := 14, ground := Ground.guard }], guard := some (14, true) }) (v := ?_) rfl (by kernel_rfl) (by kernel_rfl) (by kernel_rfl) (fun _ _ _ h => h) (Or.inl ⟨by rfl, ?_⟩) (by assumption) ?_
      rotate_left
      · intro X hSw; go_simp; try (with_reducible rfl)
      try simp only [Act.put, List.setIfInBounds_toArray, List.set_cons_zero, List.set_cons_succ]
      refine wpAnyH_take (i := 22) (oi := { dst := some 57, op := Op.pick (Operand.tmp 49) (Operand.tmp 56) (Operand.const (Value.bool false)), type := 4, pos := "more.go:18", after := #[{ on := 14, ground := Ground.data }, { on := 21, ground := Ground.data }], guard := none }) (v := ?_) rfl (by kernel_rfl) (by kernel_rfl) (by kernel_rfl) (fun _ _ _ h => h) (Or.inl ⟨by rfl, ?_⟩) (by assumption) ?_
      rotate_left
      · intro X hSw; go_simp; try (with_reducible rfl)
      try simp only [Act.put, List.setIfInBounds_toArray, List.set_cons_zero, List.set_cons_succ]
      refine wpAnyH_take (i := 23) (oi := { dst := some 4, op := Op.assign (Operand.tmp 57), type := 4, pos := "more.go:18", after := #[{ on := 22, ground := Ground.data }, { on := 14, ground := Ground.chain }, { on := 0, ground := Ground.phase }, { on := 1, ground := Ground.phase }, { on := 2, ground := Ground.phase }, { on := 3, ground := Ground.phase }, { on := 4, ground := Ground.phase }, { on := 5, ground := Ground.phase }, { on := 6, ground := Ground.phase }, { on := 7, ground := Ground.phase }, { on := 8, ground := Ground.phase }, { on := 9, ground := Ground.phase }, { on := 10, ground := Ground.phase }, { on := 11, ground := Ground.phase }, { on := 12, ground := Ground.phase }, { on := 13, ground := Ground.phase }, { on := 14, ground := Ground.phase }, { on := 15, ground := Ground.phase }, { on := 16, ground := Ground.phase }, { on := 17, ground := Ground.phase }, { on := 18, ground := Ground.phase }, { on := 19, ground := Ground.phase }, { on := 20, ground := Ground.phase }, { on := 21, ground := Ground.phase }, { on := 22, ground := Ground.phase }], guard := none }) (v := ?_) rfl (by kernel_rfl) (by kernel_rfl) (by kernel_rfl) (fun _ _ _ h => h) (Or.inl ⟨by rfl, ?_⟩) (by assumption) ?_
      rotate_left
      · intro X hSw; go_simp; try (with_reducible rfl)
      try simp only [Act.put, List.setIfInBounds_toArray, List.set_cons_zero, List.set_cons_succ]
      refine wpAnyH_done (by kernel_rfl) ?_ _
      go_wp2
      go_ret
      exact ⟨rfl, HB9.out.trans (hHeld.mono HB9.out.size)⟩
end Go.Proofs.YtbfemhhmijlmlaaDoor
