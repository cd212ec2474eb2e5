/-
  The contract of sha.Sum: it is SHA-256, as chapter 3 tells it, for every slice of bytes (of at most 2^50 of them), where the program's tables hold what they were laid with.
-/
import Derived.Test.YtbfemhhmijlmlaaDoorBlocks
namespace Go.Proofs.YtbfemhhmijlmlaaDoor
open Go.RowKit Go.Rst Go.Sha

theorem RB.from_ {w : World} {A : Option Addr} {n c q : Nat} {l : List UInt8} (h : RB w (.slice A n c) l) (hn : n = l.length) (hq : q ≤ n) :
    RB w (.slice (if c = q then A else Option.map (fun x => x.add q) A) (n - q) (c - q)) (l.drop q) := by
  subst hn
  obtain ⟨A', c', he, h1, h2, h3⟩ := h
  injection he with e1 _ e3
  subst e1
  subst e3
  refine ⟨_, _, by rw [List.length_drop], by rw [List.length_drop]; omega, by omega, ?_⟩
  rcases Nat.eq_or_lt_of_le hq with rfl | hlt
  · exact .inl (by simp)
  · rcases h3 with rfl | ⟨b, off, rfl, hb, hcell⟩
    · simp at hlt
    · rw [if_neg (by omega)]
      refine .inr ⟨b, off + q, by simp [Addr.add_lit], hb, fun j hj => ?_⟩
      rw [List.length_drop] at hj
      rw [Nat.add_assoc, hcell (q + j) (by omega)]
      simp
/-- The first k of the words that a digest begins with; behind them 0. -/
def begs (k : Nat) : List UInt32 := (List.range 8).map fun j => if j < k then hbs.getD j 0 else 0
theorem begs_length (k : Nat) : (begs k).length = 8 := by simp [begs]
theorem begs_set (k : Nat) (h : k < 8) : (wvs (begs k)).setIfInBounds k (wv (hbs.getD k 0)) = wvs (begs (k + 1)) := by
  match k, h with
  | 0, _ => rfl
  | 1, _ => rfl
  | 2, _ => rfl
  | 3, _ => rfl
  | 4, _ => rfl
  | 5, _ => rfl
  | 6, _ => rfl
  | 7, _ => rfl
theorem begs_start : begs 8 = S8.start.list := rfl

/-- How the blocks of Sum lie. -/
def UB (w : World) (H : Nat) (a : List UInt32) (wr : World) : Prop :=
  Blk wr H 24 (fillB []) ∧ Blk wr (H + 1) 31 (wvs a) ∧ Below H w wr
theorem UB.below {w wr wr' : World} {H : Nat} {a : List UInt32} (h : UB w H a wr) (hb : Below wr.heap.size wr wr') : UB w H a wr' :=
  ⟨h.1.below hb h.1.lt, h.2.1.below hb h.2.1.lt, h.2.2.trans (hb.mono (Nat.le_of_lt h.1.lt))⟩
theorem begin_at (k : Nat) (w : World) (hL : Laid w) : Calls Tryd.prog 11 #[.int .i64 (k : Int)] w fun e w' => e = .returned (wv (hbs.getD k 0)) ∧ w = w' := by
  have := begin_any (k : Int) w hL
  rw [tab_in] at this
  exact this

set_option maxRecDepth 100000 in
set_option maxHeartbeats 1000000 in
theorem sum_any (v : Value) (l : List UInt8) (w : World) (hv : RB w v l) (hb50 : l.length ≤ 140737488355328) (hL : Laid w) :
    Calls Tryd.prog 7 #[v] w fun e w' => e = .returned (.agg (bva (sum l))) ∧ Below w.heap.size w w' := by
  obtain ⟨Z, hZ⟩ : ∃ Z, Z = Array.replicate 32 (Value.int .u8 0) := ⟨_, rfl⟩
  have z24 := zero24
  rw [← hZ] at z24
  rw [← fillB_nil] at hZ
  obtain ⟨m, hm⟩ : ∃ m, m = l.length / 64 := ⟨_, rfl⟩
  have hcut := sum_cut l m (by omega)
  have HM := Lib.hid hm
  have HZ := Lib.hid hZ
  have HV := Lib.hid hv
  have HL := Lib.hid hL
  have H50 := Lib.hid hb50
  obtain ⟨A, c, rfl, h1, h2, h3⟩ := hv
  obtain ⟨n, hn⟩ : ∃ n, n = l.length := ⟨_, rfl⟩
  have HN := Lib.hid hn
  obtain ⟨q, hq⟩ : ∃ q, q = m * 64 := ⟨_, rfl⟩
  have HQ := Lib.hid hq
  have hqn : q ≤ n := by omega
  have hq64 : n - n % 64 = q := by omega
  have h1' : n ≤ c := by omega
  rw [← hn] at hb50 ⊢
  obtain ⟨R, hR⟩ : ∃ R, R = bva (sum l) := ⟨_, rfl⟩
  rw [← hR]
  rw [hcut, ← hq] at hR
  have HR := Lib.hid hR
  unfold maxLen at h2
  clear hZ hL h3 hn hm hq hcut hR h1
  go_enter Tryd.func7, Tryd.ntmps7
  go_wp2
  obtain ⟨H, hH⟩ : ∃ H, H = w.heap.size := ⟨_, rfl⟩
  rw [← hH]
  obtain ⟨W2, hW2⟩ : ∃ W2, W2 = (w.alloc (Obj.cells Z 24)).alloc (Obj.cells #[Value.int IntKind.u32 0, Value.int IntKind.u32 0, Value.int IntKind.u32 0, Value.int IntKind.u32 0, Value.int IntKind.u32 0, Value.int IntKind.u32 0, Value.int IntKind.u32 0, Value.int IntKind.u32 0] 31) := ⟨_, rfl⟩
  rw [← hW2]
  have hM : UB w H (begs 0) W2 := by
    rw [hW2, hH, HZ.out]
    exact ⟨heap_alloc2_old w _ _, heap_alloc2_new w _ _, ((Below.refl _ _).alloc (Nat.le_refl _) _).alloc (by simp) _⟩
  have HM0 := Lib.hid hM
  have HH := Lib.hid hH
  clear hM hW2 hH
  go_loopw [6] (fun i wr => ∃ k : Nat, k ≤ 8 ∧ i = .int .i64 k ∧ UB w H (begs k) wr) (fun i _ => 8 - (intOf i).toNat)
  case atStart => exact ⟨0, by omega, rfl, HM0.out⟩
  case round =>
    obtain ⟨k, hk, rfl, hM⟩ := hrel
    by_cases hlt : k < 8
    · have hLr := HL.out.below (HH.out ▸ hM.2.2)
      have hx0 := (hM.2.1.cell k).trans (wvs_get (by rw [begs_length]; exact hlt))
      have hf := hM.2.1.frozen k
      have hset := begs_set k hlt
      have hcall := begin_at k wr hLr
      generalize (begs k).getD k 0 = x0 at *
      generalize hbs.getD k 0 = x1 at *
      unfold wv at hx0 hcall
      have HS := Lib.hid hset
      have HC := Lib.hid hcall
      have HMk := Lib.hid hM
      have hk0 : (0 : Int) ≤ (k : Int) := by omega
      have hk1 : (k : Int) < 8 := by omega
      clear hset hcall hM hLr HM0
      go_wp2_with fail
      refine HC.out.mono ?_
      rintro e1 w1 ⟨rfl, rfl⟩
      go_wp2
      go_roundw
      case rel =>
        refine ⟨k + 1, by omega, by go_num, HMk.out.1.far (by simp) _, ?_, HMk.out.2.2.setCell (by simp) _⟩
        have := HMk.out.2.1.set_ k (wv x1)
        rw [HS.out] at this
        exact this
      case measure => simp [intOf]; omega
    · obtain rfl : k = 8 := by omega
      obtain ⟨hb0, hb1, hbel⟩ := hM
      rw [begs_start] at hb1
      have hle : H ≤ wr.drew.heap.size := Nat.le_of_lt hb0.lt
      have hbelw : Below w.heap.size w wr := HH.out ▸ hbel
      have hrb := HV.out.below hbelw
      have hto := hrb.head (n := q) (by rw [← HN.out]; exact hqn)
      have hlt : (l.take q).length = m * 64 := by rw [List.length_take, ← HN.out, ← HQ.out]; omega
      have hc1 := blocks_any S8.start _ (l.take q) m wr.drew (RB.drew hto) hlt (by have := HN.out; have := H50.out; rw [List.length_take]; omega) (Laid.below (w' := wr.drew) (HL.out.below hbelw) (Below.refl _ _).drew)
      have HC1 := Lib.hid hc1
      have hX8 := info31t S8.start
      have hY8 := info31t (blocks (l.take q) m S8.start)
      have hYO := wvs_oneCell (blocks (l.take q) m S8.start).list
      have hXY : (wvs S8.start.list).size = (wvs (blocks (l.take q) m S8.start).list).size := rfl
      obtain ⟨SM, hSM⟩ : ∃ SM, SM = blocks (l.take q) m S8.start := ⟨_, rfl⟩
      rw [← hSM] at hY8 hYO hXY HC1
      have HSM := Lib.hid hSM
      generalize wvs S8.start.list = X at *
      obtain ⟨Y, hY⟩ : ∃ Y, Y = wvs SM.list := ⟨_, rfl⟩
      rw [← hY] at hY8 hYO hXY HC1
      have HY := Lib.hid hY
      have H0 := Lib.hid hb0
      have H1 := Lib.hid hb1
      have HB := Lib.hid hbel
      have HLE := Lib.hid hle
      have HX8 := Lib.hid hX8
      have HY8 := Lib.hid hY8
      have HYO := Lib.hid hYO
      have HXY := Lib.hid hXY
      clear hb0 hb1 hbel hle hbelw hrb hto hlt hc1 hX8 hY8 hYO hXY hSM hY HM0
      have j1 : (n : Int) - (n : Int) % 64 = (q : Int) := by omega
      have j2 : (n : Int) - (n : Int).tmod 64 = (q : Int) := by rw [Int.tmod_eq_emod_of_nonneg (by omega)]; omega
      have j3 : (0 : Int) ≤ (q : Int) := by omega
      have j4 : (q : Int) ≤ (n : Int) := by omega
      have j5 : (n : Int) ≤ (c : Int) := by omega
      have j6 : (q : Int) ≤ (c : Int) := by omega
      go_wp2
      refine wp_region_held_drew (S := fun X => Below H w X) (by kernel_rfl) HB.out.drew (fun hHeld => ?_)
      refine wpAnyH_take (i := 1) (oi := { dst := some 21, op := Op.move (Operand.tmp 0), type := 22, pos := "sha.go:54", after := #[], guard := none }) (v := ?_) rfl (by kernel_rfl) (by kernel_rfl) (by kernel_rfl) (fun _ _ _ h => h) (Or.inl ⟨by rfl, ?_⟩) (by assumption) ?_
      rotate_left
      · intro X hSw; go_simp; try (with_reducible rfl)
      try simp only [Act.put, List.setIfInBounds_toArray, List.set_cons_zero, List.set_cons_succ]
      refine wpAnyH_take (i := 2) (oi := { dst := some 22, op := Op.move (Operand.tmp 5), type := 3, pos := "sha.go:54", after := #[], guard := none }) (v := ?_) rfl (by kernel_rfl) (by kernel_rfl) (by kernel_rfl) (fun _ _ _ h => h) (Or.inl ⟨by rfl, ?_⟩) (by assumption) ?_
      rotate_left
      · intro X hSw; go_simp; try (with_reducible rfl)
      try simp only [Act.put, List.setIfInBounds_toArray, List.set_cons_zero, List.set_cons_succ]
      refine wpAnyH_take (i := 3) (oi := { dst := some 23, op := Op.slice 22 (Operand.tmp 21) none (some (Operand.tmp 22)) none, type := 22, pos := "sha.go:54", after := #[{ on := 1, ground := Ground.data }, { on := 2, ground := Ground.data }], guard := none }) (v := ?_) rfl (by kernel_rfl) (by kernel_rfl) (by kernel_rfl) (fun _ _ _ h => h) (Or.inl ⟨by rfl, ?_⟩) (by assumption) ?_
      rotate_left
      · intro X hSw; go_simp; try (with_reducible rfl)
      try simp only [Act.put, List.setIfInBounds_toArray, List.set_cons_zero, List.set_cons_succ]
      refine wpAnyH_ready (rs := [0]) (by kernel_rfl) (by simp) ?_
      refine AllReadyH.cons (o := { dst := some 20, op := Op.load 31 (Operand.tmp 3), type := 31, pos := "sha.go:54", after := #[], guard := none }) rfl (fun K hK => ?_) AllReadyH.nil
      refine step_load_row (by rfl) 31 (.tmp 3) (by rfl) (H + 1) (by rfl) 31 X (0, 0) _ H1.out Tryd.underlying31 rfl HX8.out ?_
      refine hK.out _ _ ?_ (fun _ => ?_)
      · exact HB.out.drew
      clear hK K
      try simp only [Act.put, List.setIfInBounds_toArray, List.set_cons_zero, List.set_cons_succ]
      refine wpAnyH_ready (rs := [4]) (by kernel_rfl) (by simp) ?_
      refine AllReadyH.cons (o := { dst := some 24, op := Op.call { callee := Callee.value (Operand.func 13), args := #[Operand.tmp 20, Operand.tmp 23], argTypes := #[31, 22] }, type := 31, pos := "sha.go:54", after := #[{ on := 0, ground := Ground.data }, { on := 3, ground := Ground.data }], guard := none }) rfl (fun K hK => ?_) AllReadyH.nil
      go_simp
      refine HC1.out.mono ?_
      rintro x w1 ⟨rfl, hbw1⟩
      try (go_wp2_with fail)
      refine hK.out _ _ ?_ (fun _ => ?_)
      · exact HB.out.drew.trans (hbw1.mono HLE.out)
      clear hK K
      try simp only [Act.put, List.setIfInBounds_toArray, List.set_cons_zero, List.set_cons_succ]
      refine wpAnyH_ready (rs := [5]) (by kernel_rfl) (by simp) ?_
      refine AllReadyH.cons (o := { dst := none, op := Op.store 31 (Operand.tmp 3) (Operand.tmp 24), type := 0, pos := "sha.go:54", after := #[{ on := 4, ground := Ground.data }, { on := 4, ground := Ground.chain }, { on := 0, ground := Ground.phase }, { on := 1, ground := Ground.phase }, { on := 2, ground := Ground.phase }, { on := 3, ground := Ground.phase }, { on := 4, ground := Ground.phase }], guard := none }) rfl (fun K hK => ?_) AllReadyH.nil
      refine step_store_row (by rfl) 31 (.tmp 3) (.tmp 24) (by rfl) (H + 1) Y (by rfl) (by rfl) 31 X (Blk.below (w := wr.drew) H1.out hbw1 H1.out.lt) HY8.out HXY.out HYO.out ?_
      refine hK.out _ _ ?_ (fun _ => ?_)
      · exact (HB.out.drew.trans (hbw1.mono HLE.out)).trans (setRow_bel _ _ _ (Nat.le_succ H))
      clear hK K
      try simp only [Act.put]
      refine wpAnyH_done (by kernel_rfl) ?_ _
      obtain ⟨wr2, hwr2⟩ : ∃ wr2, wr2 = w1.setRow (H + 1) Y := ⟨_, rfl⟩
      rw [← hwr2]
      have hb0 : Blk wr2 H 24 (fillB []) := by
        rw [hwr2]
        exact (setRow_other w1 (H + 1) H Y (by omega)).trans (Blk.below (w := wr.drew) H0.out hbw1 H0.out.lt)
      have hb1 : Blk wr2 (H + 1) 31 Y := by
        rw [hwr2]
        exact setRow_heap _ _ _ _ _ _ (Blk.below (w := wr.drew) H1.out hbw1 H1.out.lt)
      have hbel : Below H w wr2 := by
        rw [hwr2]
        exact (HB.out.drew.trans (hbw1.mono HLE.out)).trans (setRow_bel _ _ _ (Nat.le_succ H))
      clear hbw1 hwr2 HC1 H0 H1 HB HLE hHeld
      have hbelw : Below w.heap.size w wr2 := HH.out ▸ hbel
      have hle : H ≤ wr2.drew.heap.size := Nat.le_of_lt hb0.lt
      have hfrom := Go.Proofs.YtbfemhhmijlmlaaDoor.RB.from_ (q := q) (HV.out.below hbelw) rfl (by rw [← HN.out]; exact hqn)
      rw [← HN.out] at hfrom
      obtain ⟨A9, hA9⟩ : ∃ A9, (if c = q then A else Option.map (fun x => x.add q) A) = A9 := ⟨_, rfl⟩
      rw [hA9] at hfrom
      have hdl : (l.drop q).length < 64 := by rw [List.length_drop, ← HN.out]; omega
      have hdl' : (l.drop q).length ≤ 64 := by omega
      have hc2 := ending_any _ (l.drop q) n wr2.drew (RB.drew hfrom) hdl (by have := HN.out; have := H50.out; omega)
      obtain ⟨E, hE⟩ : ∃ E, E = ending (l.drop q) n := ⟨_, rfl⟩
      have hEl : E.length ≤ 1125899906842624 := by
        rw [hE, ending_length]
        unfold noughts
        omega
      have hEw : E.length = E.length / 64 * 64 := by rw [hE]; exact ending_whole _ _
      obtain ⟨SF, hSF⟩ : ∃ SF, SF = blocks E (E.length / 64) SM := ⟨_, rfl⟩
      have hres : R = bva (digest SF) := by
        rw [HR.out, hSF, hE, HSM.out, HN.out]
      rw [← hE] at hc2
      have hc3 : ∀ w1 ve, RB w1 ve E → Below wr2.drew.heap.size wr2.drew w1 → Calls Tryd.prog 13 #[.agg Y, ve] w1 fun e w' => e = .returned (.agg (wvs SF.list)) ∧ Below w1.heap.size w1 w' := by
        intro w1 ve h1 h2
        have := blocks_any SM ve E (E.length / 64) w1 h1 hEw hEl (Laid.below (w := wr2.drew) (HL.out.below (hbelw.drew)) h2)
        rw [← hSF, ← HY.out] at this
        exact this
      have hD8 : (Tryd.prog.info? 24).map (·.size) = some (bva (digest SF)).size := info24s (by simp [bva, bvs, digest_length])
      have hFD : (fillB []).size = (bva (digest SF)).size := by rw [fillB_size (by decide)]; simp [bva, bvs, digest_length]
      generalize fillB [] = F at *
      have H0 := Lib.hid hb0
      have H1 := Lib.hid hb1
      have HB := Lib.hid hbel
      have HLE := Lib.hid hle
      have HC2 := Lib.hid hc2
      have HC3 := Lib.hid hc3
      have HRES := Lib.hid (congrArg (fun x => Ending.returned (Value.agg x)) hres.symm)
      have HD8 := Lib.hid hD8
      have HFD := Lib.hid hFD
      clear hb0 hb1 hbel hbelw hle hfrom hdl hdl' hc2 hE hEl hEw hSF hres hc3 hD8 hFD
      go_wp2
      refine wp_region_held_drew (S := fun X => Below H w X) (by kernel_rfl) HB.out.drew (fun hHeld => ?_)
      refine wpAnyH_take (i := 1) (oi := { dst := some 26, op := Op.move (Operand.tmp 0), type := 22, pos := "sha.go:55", after := #[], guard := none }) (v := ?_) rfl (by kernel_rfl) (by kernel_rfl) (by kernel_rfl) (fun _ _ _ h => h) (Or.inl ⟨by rfl, ?_⟩) (by assumption) ?_
      rotate_left
      · intro X hSw; go_simp; try (with_reducible rfl)
      try simp only [Act.put, List.setIfInBounds_toArray, List.set_cons_zero, List.set_cons_succ]
      refine wpAnyH_take (i := 2) (oi := { dst := some 27, op := Op.move (Operand.tmp 5), type := 3, pos := "sha.go:55", after := #[], guard := none }) (v := ?_) rfl (by kernel_rfl) (by kernel_rfl) (by kernel_rfl) (fun _ _ _ h => h) (Or.inl ⟨by rfl, ?_⟩) (by assumption) ?_
      rotate_left
      · intro X hSw; go_simp; try (with_reducible rfl)
      try simp only [Act.put, List.setIfInBounds_toArray, List.set_cons_zero, List.set_cons_succ]
      refine wpAnyH_take (i := 3) (oi := { dst := some 28, op := Op.slice 22 (Operand.tmp 26) (some (Operand.tmp 27)) none none, type := 22, pos := "sha.go:55", after := #[{ on := 1, ground := Ground.data }, { on := 2, ground := Ground.data }], guard := none }) (v := ?_) rfl (by kernel_rfl) (by kernel_rfl) (by kernel_rfl) (fun _ _ _ h => h) (Or.inl ⟨by rfl, ?_⟩) (by assumption) ?_
      rotate_left
      · intro X hSw; go_simp; try (with_reducible rfl)
      try simp only [Act.put, List.setIfInBounds_toArray, List.set_cons_zero, List.set_cons_succ]
      refine wpAnyH_take (i := 4) (oi := { dst := some 29, op := Op.move (Operand.tmp 0), type := 22, pos := "sha.go:55", after := #[], guard := none }) (v := ?_) rfl (by kernel_rfl) (by kernel_rfl) (by kernel_rfl) (fun _ _ _ h => h) (Or.inl ⟨by rfl, ?_⟩) (by assumption) ?_
      rotate_left
      · intro X hSw; go_simp; try (with_reducible rfl)
      try simp only [Act.put, List.setIfInBounds_toArray, List.set_cons_zero, List.set_cons_succ]
      refine wpAnyH_take (i := 5) (oi := { dst := some 30, op := Op.call { callee := Callee.builtin Builtin.len, args := #[Operand.tmp 29], argTypes := #[22] }, type := 3, pos := "sha.go:55", after := #[{ on := 4, ground := Ground.data }], guard := none }) (v := ?_) rfl (by kernel_rfl) (by kernel_rfl) (by kernel_rfl) (fun _ _ _ h => h) (Or.inl ⟨by rfl, ?_⟩) (by assumption) ?_
      rotate_left
      · intro X hSw; go_simp; try (with_reducible rfl)
      try simp only [Act.put, List.setIfInBounds_toArray, List.set_cons_zero, List.set_cons_succ]
      refine wpAnyH_ready (rs := [0, 6]) (by kernel_rfl) (by simp) ?_
      refine AllReadyH.cons (o := { dst := some 25, op := Op.load 31 (Operand.tmp 3), type := 31, pos := "sha.go:55", after := #[], guard := none }) rfl (fun K hK => ?_) (AllReadyH.cons (o := { dst := some 31, op := Op.call { callee := Callee.value (Operand.func 15), args := #[Operand.tmp 28, Operand.tmp 30], argTypes := #[22, 3] }, type := 22, pos := "sha.go:55", after := #[{ on := 3, ground := Ground.data }, { on := 5, ground := Ground.data }], guard := none }) rfl (fun K hK => ?_) AllReadyH.nil)
      · refine step_load_row (by rfl) 31 (.tmp 3) (by rfl) (H + 1) (by rfl) 31 Y (0, 0) _ H1.out Tryd.underlying31 rfl HY8.out ?_
        refine hK.out _ _ ?_ (fun _ => ?_)
        · exact HB.out.drew
        clear hK K
        try simp only [Act.put, List.setIfInBounds_toArray, List.set_cons_zero, List.set_cons_succ]
        refine wpAnyH_ready (rs := [6]) (by kernel_rfl) (by simp) ?_
        refine AllReadyH.cons (o := { dst := some 31, op := Op.call { callee := Callee.value (Operand.func 15), args := #[Operand.tmp 28, Operand.tmp 30], argTypes := #[22, 3] }, type := 22, pos := "sha.go:55", after := #[{ on := 3, ground := Ground.data }, { on := 5, ground := Ground.data }], guard := none }) rfl (fun K hK => ?_) AllReadyH.nil
        go_simp
        refine HC2.out.mono ?_
        rintro x w1 ⟨ve, rfl, hrb, hbw1⟩
        try (go_wp2_with fail)
        refine hK.out _ _ ?_ (fun _ => ?_)
        · exact HB.out.drew.trans (hbw1.mono HLE.out)
        clear hK K
        try simp only [Act.put, List.setIfInBounds_toArray, List.set_cons_zero, List.set_cons_succ]
        refine wpAnyH_ready (rs := [7]) (by kernel_rfl) (by simp) ?_
        refine AllReadyH.cons (o := { dst := some 32, op := Op.call { callee := Callee.value (Operand.func 13), args := #[Operand.tmp 25, Operand.tmp 31], argTypes := #[31, 22] }, type := 31, pos := "sha.go:55", after := #[{ on := 0, ground := Ground.data }, { on := 6, ground := Ground.data }, { on := 6, ground := Ground.chain }], guard := none }) rfl (fun K hK => ?_) AllReadyH.nil
        go_simp
        refine (HC3.out w1 ve hrb hbw1).mono ?_
        rintro x w2 ⟨rfl, hbw2⟩
        try (go_wp2_with fail)
        refine hK.out _ _ ?_ (fun _ => ?_)
        · exact (HB.out.drew.trans (hbw1.mono HLE.out)).trans (hbw2.mono (Nat.le_trans HLE.out hbw1.size))
        clear hK K
        try simp only [Act.put, List.setIfInBounds_toArray, List.set_cons_zero, List.set_cons_succ]
        refine wpAnyH_ready (rs := [8]) (by kernel_rfl) (by simp) ?_
        refine AllReadyH.cons (o := { dst := some 33, op := Op.call { callee := Callee.value (Operand.func 14), args := #[Operand.tmp 32], argTypes := #[31] }, type := 24, pos := "sha.go:55", after := #[{ on := 7, ground := Ground.data }, { on := 7, ground := Ground.chain }], guard := none }) rfl (fun K hK => ?_) AllReadyH.nil
        go_simp
        refine (digest_any SF w2).mono ?_
        rintro x w3 ⟨rfl, hbw3⟩
        try (go_wp2_with fail)
        refine hK.out _ _ ?_ (fun _ => ?_)
        · exact ((HB.out.drew.trans (hbw1.mono HLE.out)).trans (hbw2.mono (Nat.le_trans HLE.out hbw1.size))).trans (hbw3.mono (Nat.le_trans (Nat.le_trans HLE.out hbw1.size) hbw2.size))
        clear hK K
        try simp only [Act.put, List.setIfInBounds_toArray, List.set_cons_zero, List.set_cons_succ]
        refine wpAnyH_ready (rs := [9]) (by kernel_rfl) (by simp) ?_
        refine AllReadyH.cons (o := { dst := none, op := Op.store 24 (Operand.tmp 2) (Operand.tmp 33), type := 0, pos := "sha.go:55", after := #[{ on := 8, ground := Ground.data }, { on := 8, ground := Ground.chain }, { on := 0, ground := Ground.phase }, { on := 1, ground := Ground.phase }, { on := 2, ground := Ground.phase }, { on := 3, ground := Ground.phase }, { on := 4, ground := Ground.phase }, { on := 5, ground := Ground.phase }, { on := 6, ground := Ground.phase }, { on := 7, ground := Ground.phase }, { on := 8, ground := Ground.phase }], guard := none }) rfl (fun K hK => ?_) AllReadyH.nil
        have h24 := (Blk.below (Blk.below (Blk.below (w := wr2.drew) H0.out hbw1 H0.out.lt) hbw2 (Nat.lt_of_lt_of_le H0.out.lt hbw1.size)) hbw3 (Nat.lt_of_lt_of_le (Nat.lt_of_lt_of_le H0.out.lt hbw1.size) hbw2.size))
        refine step_store_row (by rfl) 24 (.tmp 2) (.tmp 33) (by rfl) H (bva (digest SF)) (by rfl) (by rfl) 24 F h24 HD8.out HFD.out (bva_oneCell _) ?_
        refine hK.out _ _ ?_ (fun _ => ?_)
        · exact (((HB.out.drew.trans (hbw1.mono HLE.out)).trans (hbw2.mono (Nat.le_trans HLE.out hbw1.size))).trans (hbw3.mono (Nat.le_trans (Nat.le_trans HLE.out hbw1.size) hbw2.size))).trans (setRow_bel _ _ _ (Nat.le_refl H))
        clear hK K
        try simp only [Act.put]
        refine wpAnyH_done (by kernel_rfl) ?_ _
        have hb' : Below w.heap.size w (w3.setRow H (bva (digest SF))) := HH.out ▸ ((((HB.out.drew.trans (hbw1.mono HLE.out)).trans (hbw2.mono (Nat.le_trans HLE.out hbw1.size))).trans (hbw3.mono (Nat.le_trans (Nat.le_trans HLE.out hbw1.size) hbw2.size))).trans (setRow_bel _ _ _ (Nat.le_refl H)))
        have HB' := Lib.hid hb'
        have H24 := Lib.hid (setRow_heap w3 H _ (bva (digest SF)) 24 (0, 0) h24)
        clear hb' h24
        go_wp2
        exact bodyPost_ret (v := .agg (bva (digest SF))) (results_cell_row rfl _ _ H 24 (bva (digest SF)) (0, 0) _ rfl H24.out Tryd.underlying24 rfl HD8.out) rfl ⟨HRES.out, HB'.out⟩
      · go_simp
        refine HC2.out.mono ?_
        rintro x w1 ⟨ve, rfl, hrb, hbw1⟩
        try (go_wp2_with fail)
        refine hK.out _ _ ?_ (fun _ => ?_)
        · exact HB.out.drew.trans (hbw1.mono HLE.out)
        clear hK K
        try simp only [Act.put, List.setIfInBounds_toArray, List.set_cons_zero, List.set_cons_succ]
        refine wpAnyH_ready (rs := [0]) (by kernel_rfl) (by simp) ?_
        refine AllReadyH.cons (o := { dst := some 25, op := Op.load 31 (Operand.tmp 3), type := 31, pos := "sha.go:55", after := #[], guard := none }) rfl (fun K hK => ?_) AllReadyH.nil
        refine step_load_row (by rfl) 31 (.tmp 3) (by rfl) (H + 1) (by rfl) 31 Y (0, 0) _ (Blk.below (w := wr2.drew) H1.out hbw1 H1.out.lt) Tryd.underlying31 rfl HY8.out ?_
        refine hK.out _ _ ?_ (fun _ => ?_)
        · exact HB.out.drew.trans (hbw1.mono HLE.out)
        clear hK K
        try simp only [Act.put, List.setIfInBounds_toArray, List.set_cons_zero, List.set_cons_succ]
        refine wpAnyH_ready (rs := [7]) (by kernel_rfl) (by simp) ?_
        refine AllReadyH.cons (o := { dst := some 32, op := Op.call { callee := Callee.value (Operand.func 13), args := #[Operand.tmp 25, Operand.tmp 31], argTypes := #[31, 22] }, type := 31, pos := "sha.go:55", after := #[{ on := 0, ground := Ground.data }, { on := 6, ground := Ground.data }, { on := 6, ground := Ground.chain }], guard := none }) rfl (fun K hK => ?_) AllReadyH.nil
        go_simp
        refine (HC3.out w1 ve hrb hbw1).mono ?_
        rintro x w2 ⟨rfl, hbw2⟩
        try (go_wp2_with fail)
        refine hK.out _ _ ?_ (fun _ => ?_)
        · exact (HB.out.drew.trans (hbw1.mono HLE.out)).trans (hbw2.mono (Nat.le_trans HLE.out hbw1.size))
        clear hK K
        try simp only [Act.put, List.setIfInBounds_toArray, List.set_cons_zero, List.set_cons_succ]
        refine wpAnyH_ready (rs := [8]) (by kernel_rfl) (by simp) ?_
        refine AllReadyH.cons (o := { dst := some 33, op := Op.call { callee := Callee.value (Operand.func 14), args := #[Operand.tmp 32], argTypes := #[31] }, type := 24, pos := "sha.go:55", after := #[{ on := 7, ground := Ground.data }, { on := 7, ground := Ground.chain }], guard := none }) rfl (fun K hK => ?_) AllReadyH.nil
        go_simp
        refine (digest_any SF w2).mono ?_
        rintro x w3 ⟨rfl, hbw3⟩
        try (go_wp2_with fail)
        refine hK.out _ _ ?_ (fun _ => ?_)
        · exact ((HB.out.drew.trans (hbw1.mono HLE.out)).trans (hbw2.mono (Nat.le_trans HLE.out hbw1.size))).trans (hbw3.mono (Nat.le_trans (Nat.le_trans HLE.out hbw1.size) hbw2.size))
        clear hK K
        try simp only [Act.put, List.setIfInBounds_toArray, List.set_cons_zero, List.set_cons_succ]
        refine wpAnyH_ready (rs := [9]) (by kernel_rfl) (by simp) ?_
        refine AllReadyH.cons (o := { dst := none, op := Op.store 24 (Operand.tmp 2) (Operand.tmp 33), type := 0, pos := "sha.go:55", after := #[{ on := 8, ground := Ground.data }, { on := 8, ground := Ground.chain }, { on := 0, ground := Ground.phase }, { on := 1, ground := Ground.phase }, { on := 2, ground := Ground.phase }, { on := 3, ground := Ground.phase }, { on := 4, ground := Ground.phase }, { on := 5, ground := Ground.phase }, { on := 6, ground := Ground.phase }, { on := 7, ground := Ground.phase }, { on := 8, ground := Ground.phase }], guard := none }) rfl (fun K hK => ?_) AllReadyH.nil
        have h24 := (Blk.below (Blk.below (Blk.below (w := wr2.drew) H0.out hbw1 H0.out.lt) hbw2 (Nat.lt_of_lt_of_le H0.out.lt hbw1.size)) hbw3 (Nat.lt_of_lt_of_le (Nat.lt_of_lt_of_le H0.out.lt hbw1.size) hbw2.size))
        refine step_store_row (by rfl) 24 (.tmp 2) (.tmp 33) (by rfl) H (bva (digest SF)) (by rfl) (by rfl) 24 F h24 HD8.out HFD.out (bva_oneCell _) ?_
        refine hK.out _ _ ?_ (fun _ => ?_)
        · exact (((HB.out.drew.trans (hbw1.mono HLE.out)).trans (hbw2.mono (Nat.le_trans HLE.out hbw1.size))).trans (hbw3.mono (Nat.le_trans (Nat.le_trans HLE.out hbw1.size) hbw2.size))).trans (setRow_bel _ _ _ (Nat.le_refl H))
        clear hK K
        try simp only [Act.put]
        refine wpAnyH_done (by kernel_rfl) ?_ _
        have hb' : Below w.heap.size w (w3.setRow H (bva (digest SF))) := HH.out ▸ ((((HB.out.drew.trans (hbw1.mono HLE.out)).trans (hbw2.mono (Nat.le_trans HLE.out hbw1.size))).trans (hbw3.mono (Nat.le_trans (Nat.le_trans HLE.out hbw1.size) hbw2.size))).trans (setRow_bel _ _ _ (Nat.le_refl H)))
        have HB' := Lib.hid hb'
        have H24 := Lib.hid (setRow_heap w3 H _ (bva (digest SF)) 24 (0, 0) h24)
        clear hb' h24
        go_wp2
        exact bodyPost_ret (v := .agg (bva (digest SF))) (results_cell_row rfl _ _ H 24 (bva (digest SF)) (0, 0) _ rfl H24.out Tryd.underlying24 rfl HD8.out) rfl ⟨HRES.out, HB'.out⟩
end Go.Proofs.YtbfemhhmijlmlaaDoor
