/-
  The contract of sha.blocks: it is what whole blocks make of the eight words, for any bytes that are whole blocks.
-/
import Derived.Test.YtbfemhhmijlmlaaDoorEnding
import Derived.Test.YtbfemhhmijlmlaaDoorReg
namespace Go.Proofs.YtbfemhhmijlmlaaDoor
open Go.RowKit Go.Rst Go.Sha

theorem step_load_row {P : Program} {ops : Array Oper} {o : Oper} {a : Act} {w : World} {K : Act → World → Prop} {Q : Exit → Act → World → Prop} {E : Prop} (hgd : o.guard = none) (ty : TypeId) (x : Operand) (ho : o.op = .load ty x)
    (g : Nat) (hx : a.eval x = .pointer (some ⟨g, 0, none⟩)) (t : TypeId) (cs : Array Value) (fr : Nat × Nat) (d : TypeDesc) (hg : w.heap[g]? = some (.cells cs t fr))
    (hu : P.underlying ty = some d) (hd : (match d with | .struct _ | .array _ _ => true | _ => false) = true) (hi : (P.info? ty).map (·.size) = some cs.size)
    (h : K (a.put o.dst (.agg cs)) w) : if Region.wanted o (yielded ops a.tmps) = true then Oper.wp P o a w K Q else E := by
  have hw : Region.wanted o (yielded ops a.tmps) = true := by simp [Region.wanted, hgd]
  rw [if_pos hw]
  exact wp_load_row ty x ho g hx t cs fr d hg hu hd hi h
theorem step_store_row {P : Program} {ops : Array Oper} {o : Oper} {a : Act} {w : World} {K : Act → World → Prop} {Q : Exit → Act → World → Prop} {E : Prop} (hgd : o.guard = none) (ty : TypeId) (x y : Operand) (ho : o.op = .store ty x y)
    (g : Nat) (cells : Array Value) (hx : a.eval x = .pointer (some ⟨g, 0, none⟩)) (hy : a.eval y = .agg cells)
    (t : TypeId) (old : Array Value) (hg : w.heap[g]? = some (.cells old t (0, 0))) (hi : (P.info? ty).map (·.size) = some cells.size)
    (hold : old.size = cells.size) (h1 : cells.all (·.oneCell') = true)
    (h : K (a.put o.dst undef) (w.setRow g cells)) : if Region.wanted o (yielded ops a.tmps) = true then Oper.wp P o a w K Q else E := by
  have hw : Region.wanted o (yielded ops a.tmps) = true := by simp [Region.wanted, hgd]
  rw [if_pos hw]
  exact wp_store_row ty x y ho g cells hx hy t old hg hi hold h1 h
theorem setRow_bel {B : Nat} (w : World) (g : Nat) (cs : Array Value) (h : B ≤ g) : Below B w (w.setRow g cs) := below_setRow ⟨rfl, rfl, rfl, Nat.le_refl _, fun _ _ => rfl⟩ h cs
theorem mixed_any' (s : S8) (W : List UInt32) (hW : W.length = 64) (w : World) (hL : Laid w) :
    Calls Tryd.prog 19 #[.agg (wvs s.list), .agg (wvs W)] w fun e w' => e = .returned (.agg (wvs (mix s W).list)) ∧ Below w.heap.size w w' := mixed_any s W hW w hL
theorem list_size (s : S8) : (wvs s.list).size = 8 := rfl
theorem info31t (s : S8) : (Tryd.prog.info? 31).map (·.size) = some (wvs s.list).size := info31

/-- How the blocks of blocks lie. -/
def BB (w : World) (H : Nat) (s : S8) (wr : World) : Prop :=
  Blk wr H 31 (wvs s.list) ∧ Blk wr (H + 1) 31 (wvs [0, 0, 0, 0, 0, 0, 0, 0]) ∧ Below H w wr

set_option maxRecDepth 100000 in
set_option maxHeartbeats 1000000 in
theorem blocks_any (s : S8) (v : Value) (l : List UInt8) (k : Nat) (w : World) (hv : RB w v l) (hl : l.length = k * 64) (hb50 : l.length ≤ 1125899906842624) (hL : Laid w) :
    Calls Tryd.prog 13 #[.agg (wvs s.list), v] w fun e w' => e = .returned (.agg (wvs (blocks l k s).list)) ∧ Below w.heap.size w w' := by
  obtain ⟨R, hR⟩ : ∃ R, R = wvs (blocks l k s).list := ⟨_, rfl⟩
  rw [← hR]
  obtain ⟨X0, hX0⟩ : ∃ X0, X0 = wvs s.list := ⟨_, rfl⟩
  rw [← hX0]
  have HRes := Lib.hid hR
  have HX0 := Lib.hid hX0
  have HV := Lib.hid hv
  have HL := Lib.hid hL
  have HK := Lib.hid hl
  obtain ⟨A, c, rfl, h1, h2, h3⟩ := hv
  obtain ⟨n, hn⟩ : ∃ n, n = l.length := ⟨_, rfl⟩
  rw [← hn] at h1 hb50 ⊢
  unfold maxLen at h2
  have HN := Lib.hid hn
  clear hR hX0 hL hl h3 hn
  go_enter Tryd.func13, Tryd.ntmps13
  go_wp2
  obtain ⟨H, hH⟩ : ∃ H, H = w.heap.size := ⟨_, rfl⟩
  rw [← hH]
  obtain ⟨W2, hW2⟩ : ∃ W2, W2 = (w.alloc (Obj.cells X0 31)).alloc (Obj.cells #[Value.int IntKind.u32 0, Value.int IntKind.u32 0, Value.int IntKind.u32 0, Value.int IntKind.u32 0, Value.int IntKind.u32 0, Value.int IntKind.u32 0, Value.int IntKind.u32 0, Value.int IntKind.u32 0] 31) := ⟨_, rfl⟩
  rw [← hW2]
  have hM : BB w H (blocks l 0 s) W2 := by
    rw [hW2, hH, HX0.out]
    exact ⟨heap_alloc2_old w _ _, heap_alloc2_new w _ _, ((Below.refl _ _).alloc (Nat.le_refl _) _).alloc (by simp) _⟩
  have HM := Lib.hid hM
  have HH := Lib.hid hH
  clear hM hW2 hH
  go_loopw [5] (fun i wr => ∃ j : Nat, j * 64 ≤ n ∧ i = .int .i64 ((j * 64 : Nat) : Int) ∧ BB w H (blocks l j s) wr) (fun i _ => n - (intOf i).toNat)
  case atStart => exact ⟨0, by omega, rfl, HM.out⟩
  case round =>
    obtain ⟨j, hj, rfl, hM⟩ := hrel
    by_cases hlt : j * 64 < n
    · have hq64 : j * 64 + 64 ≤ n := by have h5 := HK.out; have h6 := HN.out; omega
      obtain ⟨hb0, hb1, hbel⟩ := hM
      have hbelw : Below w.heap.size w wr := HH.out ▸ hbel
      have hrb0 := HV.out.below hbelw
      obtain ⟨b, off, rfl⟩ : ∃ b off, A = some ⟨b, off, none⟩ := by
        obtain ⟨b, off, h4, _⟩ := RB.cells_ HV.out (by rw [← HN.out]; omega)
        exact ⟨b, off, h4⟩
      have hrb := hrb0.cut (q := j * 64) (n := 64) (by rw [← HN.out]; exact hq64)
      have hlb : ((l.drop (j * 64)).take 64).length = 64 := by rw [List.length_take, List.length_drop, ← HN.out]; omega
      have hnext : blocks l (j + 1) s = mix (blocks l j s) (wl ((l.drop (j * 64)).take 64) 64) := rfl
      have hLr := HL.out.below hbelw
      have hle : H ≤ wr.drew.heap.size := Nat.le_of_lt hb0.lt
      obtain ⟨q, hq⟩ : ∃ q, q = j * 64 := ⟨_, rfl⟩
      have hqn : (j + 1) * 64 = q + 64 := by omega
      rw [← hq] at hlt hq64 hrb hlb hnext ⊢
      generalize (l.drop q).take 64 = lb at *
      generalize blocks l j s = sj at *
      have hX := list_size sj
      have hI8 := info31t sj
      have hmix : ∀ w1, Below wr.drew.heap.size wr.drew w1 → Calls Tryd.prog 19 #[.agg (wvs sj.list), .agg (wvs (wl lb 64))] w1 fun e w' => e = .returned (.agg (wvs (mix sj (wl lb 64)).list)) ∧ Below w1.heap.size w1 w' :=
        fun w1 h1 => mixed_any' sj (wl lb 64) (wl_length lb 64) w1 (Laid.below (w := wr.drew) hLr h1)
      have hfin : ∀ w1 w2, Below wr.drew.heap.size wr.drew w1 → Below w1.heap.size w1 w2 → ∃ j : Nat, j * 64 ≤ n ∧ Value.int .i64 ((q : Int) + 64) = .int .i64 ((j * 64 : Nat) : Int) ∧ BB w H (blocks l j s) (w2.setRow H (wvs (mix sj (wl lb 64)).list)) := by
        intro w1 w2 h1 h2
        refine ⟨j + 1, by omega, by rw [hqn]; rfl, ?_, ?_, ?_⟩
        · rw [hnext]
          exact setRow_heap _ _ _ _ _ _ (Blk.below (Blk.below (w := wr.drew) hb0 h1 hb0.lt) h2 (Nat.lt_of_lt_of_le hb0.lt h1.size))
        · exact (setRow_other w2 H (H + 1) _ (by omega)).trans (Blk.below (Blk.below (w := wr.drew) hb1 h1 hb1.lt) h2 (Nat.lt_of_lt_of_le hb1.lt h1.size))
        · exact ((hbel.drew.trans (h1.mono hle)).trans (h2.mono (Nat.le_trans hle h1.size))).trans (setRow_bel _ _ _ (Nat.le_refl _))
      have hY := list_size (mix sj (wl lb 64))
      have hY8 := info31t (mix sj (wl lb 64))
      have hYO := wvs_oneCell (mix sj (wl lb 64)).list
      have HXY := Lib.hid (hX.trans hY.symm)
      generalize wvs (mix sj (wl lb 64)).list = Y at *
      generalize wvs sj.list = X at *
      have H0 := Lib.hid hb0
      have HB := Lib.hid hbel
      have HRB := Lib.hid (RB.drew hrb)
      have HLB := Lib.hid hlb
      have HI8 := Lib.hid hI8
      have HY8 := Lib.hid hY8
      have HYO := Lib.hid hYO
      have HLE := Lib.hid hle
      have HMIX := Lib.hid hmix
      have FIN := Lib.hid hfin
      have HHH := Lib.hid (Nat.le_refl H)
      have i0 : (0 : Int) ≤ (q : Int) := by omega
      have i1 : (q : Int) ≤ (q : Int) + 64 := by omega
      have i2 : (q : Int) + 64 ≤ (n : Int) := by omega
      have i3 : (n : Int) ≤ (c : Int) := by omega
      have i4 : (q : Int) + 64 ≤ (c : Int) := by omega
      have i5 : (q : Int) < (n : Int) := by omega
      have i6 : IntKind.i64.wrap ((q : Int) + 64) = (q : Int) + 64 := by rw [IntKind.wrap_i64]; omega
      have i7 : ((q : Int) + 64).toNat = q + 64 := by omega
      have i8 : ¬ c = q := by omega
      have i9 : q + 64 - q = 64 := by omega
      have i10 : (0 : Int) ≤ (q : Int) + 64 := by omega
      clear hb0 hb1 hbel hbelw hrb0 hrb hlb hnext hLr hle hI8 hY8 hYO hmix hfin hX hY HM hq hqn hj
      go_wp2
      refine wp_region_held_drew (S := fun X => Below H w X) (by kernel_rfl) HB.out.drew (fun hHeld => ?_)
      refine wpAnyH_take (i := 1) (oi := { dst := some 13, op := Op.move (Operand.tmp 1), type := 22, pos := "sha.go:77", after := #[], guard := none }) (v := ?_) rfl (by kernel_rfl) (by kernel_rfl) (by kernel_rfl) (fun _ _ _ h => h) (Or.inl ⟨by rfl, ?_⟩) (by assumption) ?_
      rotate_left
      · intro X hSw; go_simp; try (with_reducible rfl)
      try simp only [Act.put, List.setIfInBounds_toArray, List.set_cons_zero, List.set_cons_succ]
      refine wpAnyH_take (i := 2) (oi := { dst := some 14, op := Op.move (Operand.tmp 5), type := 3, pos := "sha.go:77", after := #[], guard := none }) (v := ?_) rfl (by kernel_rfl) (by kernel_rfl) (by kernel_rfl) (fun _ _ _ h => h) (Or.inl ⟨by rfl, ?_⟩) (by assumption) ?_
      rotate_left
      · intro X hSw; go_simp; try (with_reducible rfl)
      try simp only [Act.put, List.setIfInBounds_toArray, List.set_cons_zero, List.set_cons_succ]
      refine wpAnyH_take (i := 3) (oi := { dst := some 15, op := Op.move (Operand.tmp 5), type := 3, pos := "sha.go:77", after := #[], guard := none }) (v := ?_) rfl (by kernel_rfl) (by kernel_rfl) (by kernel_rfl) (fun _ _ _ h => h) (Or.inl ⟨by rfl, ?_⟩) (by assumption) ?_
      rotate_left
      · intro X hSw; go_simp; try (with_reducible rfl)
      try simp only [Act.put, List.setIfInBounds_toArray, List.set_cons_zero, List.set_cons_succ]
      refine wpAnyH_take (i := 4) (oi := { dst := some 16, op := Op.binOp BinOp.add 3 (Operand.tmp 15) (Operand.const (Value.int IntKind.i64 64)) 3, type := 3, pos := "sha.go:77", after := #[{ on := 3, ground := Ground.data }], guard := none }) (v := ?_) rfl (by kernel_rfl) (by kernel_rfl) (by kernel_rfl) (fun _ _ _ h => h) (Or.inl ⟨by rfl, ?_⟩) (by assumption) ?_
      rotate_left
      · intro X hSw; go_simp; try (with_reducible rfl)
      try simp only [Act.put, List.setIfInBounds_toArray, List.set_cons_zero, List.set_cons_succ]
      refine wpAnyH_take (i := 5) (oi := { dst := some 17, op := Op.slice 22 (Operand.tmp 13) (some (Operand.tmp 14)) (some (Operand.tmp 16)) none, type := 22, pos := "sha.go:77", after := #[{ on := 1, ground := Ground.data }, { on := 2, ground := Ground.data }, { on := 4, ground := Ground.data }], guard := none }) (v := ?_) rfl (by kernel_rfl) (by kernel_rfl) (by kernel_rfl) (fun _ _ _ h => h) (Or.inl ⟨by rfl, ?_⟩) (by assumption) ?_
      rotate_left
      · intro X hSw; go_simp; try (with_reducible rfl)
      try simp only [Act.put, List.setIfInBounds_toArray, List.set_cons_zero, List.set_cons_succ]
      refine wpAnyH_ready (rs := [0, 6]) (by kernel_rfl) (by simp) ?_
      refine AllReadyH.cons (o := { dst := some 12, op := Op.load 31 (Operand.tmp 2), type := 31, pos := "sha.go:77", after := #[], guard := none }) rfl (fun K hK => ?_) (AllReadyH.cons (o := { dst := some 18, op := Op.call { callee := Callee.value (Operand.func 20), args := #[Operand.tmp 17], argTypes := #[22] }, type := 40, pos := "sha.go:77", after := #[{ on := 5, ground := Ground.data }], guard := none }) rfl (fun K hK => ?_) AllReadyH.nil)
      · refine step_load_row (by rfl) 31 (.tmp 2) (by rfl) H (by rfl) 31 X (0, 0) _ H0.out Tryd.underlying31 rfl HI8.out ?_
        refine hK.out _ _ ?_ (fun _ => ?_)
        · exact HB.out.drew
        clear hK K
        try simp only [Act.put, List.setIfInBounds_toArray, List.set_cons_zero, List.set_cons_succ]
        refine wpAnyH_ready (rs := [6]) (by kernel_rfl) (by simp) ?_
        refine AllReadyH.cons (o := { dst := some 18, op := Op.call { callee := Callee.value (Operand.func 20), args := #[Operand.tmp 17], argTypes := #[22] }, type := 40, pos := "sha.go:77", after := #[{ on := 5, ground := Ground.data }], guard := none }) rfl (fun K hK => ?_) AllReadyH.nil
        go_simp
        refine (spread_any _ _ _ HRB.out HLB.out).mono ?_
        rintro x w1 ⟨rfl, hbw1⟩
        try (go_wp2_with fail)
        refine hK.out _ _ ?_ (fun _ => ?_)
        · exact HB.out.drew.trans (hbw1.mono HLE.out)
        clear hK K
        try simp only [Act.put, List.setIfInBounds_toArray, List.set_cons_zero, List.set_cons_succ]
        refine wpAnyH_ready (rs := [7]) (by kernel_rfl) (by simp) ?_
        refine AllReadyH.cons (o := { dst := some 19, op := Op.call { callee := Callee.value (Operand.func 19), args := #[Operand.tmp 12, Operand.tmp 18], argTypes := #[31, 40] }, type := 31, pos := "sha.go:77", after := #[{ on := 0, ground := Ground.data }, { on := 6, ground := Ground.data }, { on := 6, ground := Ground.chain }], guard := none }) rfl (fun K hK => ?_) AllReadyH.nil
        go_simp
        refine (HMIX.out w1 hbw1).mono ?_
        rintro x w2 ⟨rfl, hbw2⟩
        try (go_wp2_with fail)
        refine hK.out _ _ ?_ (fun _ => ?_)
        · exact (HB.out.drew.trans (hbw1.mono HLE.out)).trans (hbw2.mono (Nat.le_trans HLE.out hbw1.size))
        clear hK K
        try simp only [Act.put, List.setIfInBounds_toArray, List.set_cons_zero, List.set_cons_succ]
        refine wpAnyH_ready (rs := [8]) (by kernel_rfl) (by simp) ?_
        refine AllReadyH.cons (o := { dst := none, op := Op.store 31 (Operand.tmp 2) (Operand.tmp 19), type := 0, pos := "sha.go:77", after := #[{ on := 7, ground := Ground.data }, { on := 7, ground := Ground.chain }, { on := 0, ground := Ground.phase }, { on := 1, ground := Ground.phase }, { on := 2, ground := Ground.phase }, { on := 3, ground := Ground.phase }, { on := 4, ground := Ground.phase }, { on := 5, ground := Ground.phase }, { on := 6, ground := Ground.phase }, { on := 7, ground := Ground.phase }], guard := none }) rfl (fun K hK => ?_) AllReadyH.nil
        refine step_store_row (by rfl) 31 (.tmp 2) (.tmp 19) (by rfl) H Y (by rfl) (by rfl) 31 X (Blk.below (Blk.below (w := wr.drew) H0.out hbw1 H0.out.lt) hbw2 (Nat.lt_of_lt_of_le H0.out.lt hbw1.size)) HY8.out HXY.out HYO.out ?_
        refine hK.out _ _ ?_ (fun _ => ?_)
        · exact ((HB.out.drew.trans (hbw1.mono HLE.out)).trans (hbw2.mono (Nat.le_trans HLE.out hbw1.size))).trans (setRow_bel _ _ _ HHH.out)
        clear hK K
        try simp only [Act.put]
        refine wpAnyH_done (by kernel_rfl) ?_ _
        go_wp2
        go_roundw
        case rel => exact FIN.out w1 w2 hbw1 hbw2
        case measure => simp [intOf]; omega
      · go_simp
        refine (spread_any _ _ _ HRB.out HLB.out).mono ?_
        rintro x w1 ⟨rfl, hbw1⟩
        try (go_wp2_with fail)
        refine hK.out _ _ ?_ (fun _ => ?_)
        · exact HB.out.drew.trans (hbw1.mono HLE.out)
        clear hK K
        try simp only [Act.put, List.setIfInBounds_toArray, List.set_cons_zero, List.set_cons_succ]
        refine wpAnyH_ready (rs := [0]) (by kernel_rfl) (by simp) ?_
        refine AllReadyH.cons (o := { dst := some 12, op := Op.load 31 (Operand.tmp 2), type := 31, pos := "sha.go:77", after := #[], guard := none }) rfl (fun K hK => ?_) AllReadyH.nil
        refine step_load_row (by rfl) 31 (.tmp 2) (by rfl) H (by rfl) 31 X (0, 0) _ (Blk.below (w := wr.drew) H0.out hbw1 H0.out.lt) Tryd.underlying31 rfl HI8.out ?_
        refine hK.out _ _ ?_ (fun _ => ?_)
        · exact HB.out.drew.trans (hbw1.mono HLE.out)
        clear hK K
        try simp only [Act.put, List.setIfInBounds_toArray, List.set_cons_zero, List.set_cons_succ]
        refine wpAnyH_ready (rs := [7]) (by kernel_rfl) (by simp) ?_
        refine AllReadyH.cons (o := { dst := some 19, op := Op.call { callee := Callee.value (Operand.func 19), args := #[Operand.tmp 12, Operand.tmp 18], argTypes := #[31, 40] }, type := 31, pos := "sha.go:77", after := #[{ on := 0, ground := Ground.data }, { on := 6, ground := Ground.data }, { on := 6, ground := Ground.chain }], guard := none }) rfl (fun K hK => ?_) AllReadyH.nil
        go_simp
        refine (HMIX.out w1 hbw1).mono ?_
        rintro x w2 ⟨rfl, hbw2⟩
        try (go_wp2_with fail)
        refine hK.out _ _ ?_ (fun _ => ?_)
        · exact (HB.out.drew.trans (hbw1.mono HLE.out)).trans (hbw2.mono (Nat.le_trans HLE.out hbw1.size))
        clear hK K
        try simp only [Act.put, List.setIfInBounds_toArray, List.set_cons_zero, List.set_cons_succ]
        refine wpAnyH_ready (rs := [8]) (by kernel_rfl) (by simp) ?_
        refine AllReadyH.cons (o := { dst := none, op := Op.store 31 (Operand.tmp 2) (Operand.tmp 19), type := 0, pos := "sha.go:77", after := #[{ on := 7, ground := Ground.data }, { on := 7, ground := Ground.chain }, { on := 0, ground := Ground.phase }, { on := 1, ground := Ground.phase }, { on := 2, ground := Ground.phase }, { on := 3, ground := Ground.phase }, { on := 4, ground := Ground.phase }, { on := 5, ground := Ground.phase }, { on := 6, ground := Ground.phase }, { on := 7, ground := Ground.phase }], guard := none }) rfl (fun K hK => ?_) AllReadyH.nil
        refine step_store_row (by rfl) 31 (.tmp 2) (.tmp 19) (by rfl) H Y (by rfl) (by rfl) 31 X (Blk.below (Blk.below (w := wr.drew) H0.out hbw1 H0.out.lt) hbw2 (Nat.lt_of_lt_of_le H0.out.lt hbw1.size)) HY8.out HXY.out HYO.out ?_
        refine hK.out _ _ ?_ (fun _ => ?_)
        · exact ((HB.out.drew.trans (hbw1.mono HLE.out)).trans (hbw2.mono (Nat.le_trans HLE.out hbw1.size))).trans (setRow_bel _ _ _ HHH.out)
        clear hK K
        try simp only [Act.put]
        refine wpAnyH_done (by kernel_rfl) ?_ _
        go_wp2
        go_roundw
        case rel => exact FIN.out w1 w2 hbw1 hbw2
        case measure => simp [intOf]; omega
    · obtain rfl : j = k := by have h5 := HK.out; have h6 := HN.out; omega
      obtain ⟨hb0, hb1, hbel⟩ := hM
      rw [show wvs (blocks l j s).list = R from HRes.out.symm] at hb0
      have hR8 : R.size = 8 := by rw [HRes.out]; rfl
      have hI : R.all (·.oneCell') = true := by rw [HRes.out]; exact wvs_oneCell _
      have hZ8 : (wvs [0, 0, 0, 0, 0, 0, 0, 0]).size = R.size := by rw [hR8]; rfl
      have hi8 : (Tryd.prog.info? 31).map (·.size) = some R.size := by rw [hR8]; exact info31
      generalize wvs [0, 0, 0, 0, 0, 0, 0, 0] = F at *
      have H0 := Lib.hid hb0
      have H1 := Lib.hid hb1
      have HB := Lib.hid hbel
      have HI := Lib.hid hI
      have HZ8 := Lib.hid hZ8
      have HI8 := Lib.hid hi8
      clear hb0 hb1 hbel hI hZ8 hR8 hi8 HM
      go_wp2_with (first
        | (refine wpList_load_row rfl 31 (.tmp 2) rfl H rfl 31 R (0, 0) _ H0.out Tryd.underlying31 rfl HI8.out ?_)
        | (refine wpList_store_row rfl 31 (.tmp 4) (.tmp 20) rfl (H + 1) R rfl rfl 31 F H1.out HI8.out HZ8.out HI.out ?_))
      have hb' : Below w.heap.size w (wr.setRow (H + 1) R) := HH.out ▸ HB.out.trans (setRow_bel _ _ _ (by omega))
      exact bodyPost_ret (v := .agg R) (results_cell_row rfl _ _ (H + 1) 31 R (0, 0) _ rfl (setRow_heap _ _ _ _ _ _ H1.out) Tryd.underlying31 rfl HI8.out) rfl ⟨rfl, hb'⟩
end Go.Proofs.YtbfemhhmijlmlaaDoor
