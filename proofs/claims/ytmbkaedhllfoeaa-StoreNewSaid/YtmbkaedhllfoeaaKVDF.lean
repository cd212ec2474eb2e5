/-
 The contract of the store's readHead.
-/
import Derived.StillTailTactics
import Derived.Test.YtmbkaedhllfoeaaKVBB
import Derived.Test.YtmbkaedhllfoeaaKVCG
set_option linter.unusedVariables false
namespace Go.Str
def hEp (l : List UInt8) : Nat := (l.getD 2 0).toNat * 16777216 + (l.getD 3 0).toNat * 65536 + (l.getD 4 0).toNat * 256 + (l.getD 5 0).toNat
def hAr (l : List UInt8) : Nat := (l.getD 6 0).toNat
def hPg (l : List UInt8) : Nat := (l.getD 7 0).toNat * 256 + (l.getD 8 0).toNat
def hOk (l : List UInt8) (most : Nat) : Bool := if 1 ≤ hEp l ∧ hEp l ≤ 1073741824 ∧ hAr l < 2 ∧ 1 ≤ hPg l ∧ hPg l ≤ most then (headL (hEp l) (hAr l) (hPg l) == l) else false
end Go.Str
namespace Go.Proofs.Ytmbkaedhllfoeaa
open Go.RowKit Go.Rst Go.Dv Go.Crc Go.Str
theorem or_up (x y i : Nat) (h : y < 2 ^ i) : x * 2 ^ i ||| y = x * 2 ^ i + y := by
 have := Nat.shiftLeft_add_eq_or_of_lt (b := y) (i := i) h x
 rw [Nat.shiftLeft_eq] at this
 exact this.symm
theorem hw_or1 (a b : Nat) (h : b < 256) : a * 16777216 ||| b * 65536 = a * 16777216 + b * 65536 := or_up a (b * 65536) 24 (by omega)
theorem hw_or2 (a b c : Nat) (h : c < 256) : (a * 16777216 + b * 65536) ||| c * 256 = a * 16777216 + b * 65536 + c * 256 := by
 have := or_up (a * 256 + b) (c * 256) 16 (by omega)
 rw [show (a * 256 + b) * 2 ^ 16 = a * 16777216 + b * 65536 by omega] at this
 exact this
theorem hw_or3 (a b c d : Nat) (h : d < 256) : (a * 16777216 + b * 65536 + c * 256) ||| d = a * 16777216 + b * 65536 + c * 256 + d := by
 have := or_up (a * 65536 + b * 256 + c) d 8 (by omega)
 rw [show (a * 65536 + b * 256 + c) * 2 ^ 8 = a * 16777216 + b * 65536 + c * 256 by omega] at this
 exact this
theorem hw_or4 (a b : Nat) (h : b < 256) : a * 256 ||| b = a * 256 + b := or_up a b 8 (by omega)
set_option maxRecDepth 100000 in
set_option maxHeartbeats 1600000 in
theorem rdHead_any (b : Value) (l : List UInt8) (most : Nat) (w : World) (h : RB w b l) (hl : l.length = 64) (hm : most ≤ 600) :
  Calls Try.prog 45 #[b, .int .i64 (most : Int)] w fun e w' => e = .returned (.tuple #[.agg #[.int .i64 (Str.hEp l : Int), .int .i64 (Str.hAr l : Int), .int .i64 (Str.hPg l : Int)], .bool (Str.hOk l most)]) ∧ Below w.heap.size w w' := by
 obtain ⟨A, c, rfl, hc1, hc2, hc3⟩ := h
 rcases hc3 with h0 | ⟨g, off, rfl, hg, hc⟩
 ·rw [h0] at hl; simp at hl
 unfold maxLen at hc2
 rw [hl] at hc1 ⊢
 have HRB := Lib.hid (show RB w (.slice (some ⟨g, off, none⟩) 64 c) l from ⟨_, c, by rw [hl], by omega, by unfold maxLen; omega, .inr ⟨g, off, rfl, hg, hc⟩⟩)
 have H2 := Lib.hid (fun X (hX : Below w.heap.size w X) => (hX.cell (p := ⟨g, off + 2, none⟩) hg).trans (show w.cell? ⟨g, off + 2, none⟩ = some (.int .u8 (((l[2]'(by omega)).toNat : Nat) : Int)) from hc 2 (by rw [hl]; omega)))
 have H3 := Lib.hid (fun X (hX : Below w.heap.size w X) => (hX.cell (p := ⟨g, off + 3, none⟩) hg).trans (show w.cell? ⟨g, off + 3, none⟩ = some (.int .u8 (((l[3]'(by omega)).toNat : Nat) : Int)) from hc 3 (by rw [hl]; omega)))
 have H4 := Lib.hid (fun X (hX : Below w.heap.size w X) => (hX.cell (p := ⟨g, off + 4, none⟩) hg).trans (show w.cell? ⟨g, off + 4, none⟩ = some (.int .u8 (((l[4]'(by omega)).toNat : Nat) : Int)) from hc 4 (by rw [hl]; omega)))
 have H5 := Lib.hid (fun X (hX : Below w.heap.size w X) => (hX.cell (p := ⟨g, off + 5, none⟩) hg).trans (show w.cell? ⟨g, off + 5, none⟩ = some (.int .u8 (((l[5]'(by omega)).toNat : Nat) : Int)) from hc 5 (by rw [hl]; omega)))
 have H6 := Lib.hid (fun X (hX : Below w.heap.size w X) => (hX.cell (p := ⟨g, off + 6, none⟩) hg).trans (show w.cell? ⟨g, off + 6, none⟩ = some (.int .u8 (((l[6]'(by omega)).toNat : Nat) : Int)) from hc 6 (by rw [hl]; omega)))
 have H7 := Lib.hid (fun X (hX : Below w.heap.size w X) => (hX.cell (p := ⟨g, off + 7, none⟩) hg).trans (show w.cell? ⟨g, off + 7, none⟩ = some (.int .u8 (((l[7]'(by omega)).toNat : Nat) : Int)) from hc 7 (by rw [hl]; omega)))
 have H8 := Lib.hid (fun X (hX : Below w.heap.size w X) => (hX.cell (p := ⟨g, off + 8, none⟩) hg).trans (show w.cell? ⟨g, off + 8, none⟩ = some (.int .u8 (((l[8]'(by omega)).toNat : Nat) : Int)) from hc 8 (by rw [hl]; omega)))
 obtain ⟨n2, hn2⟩ : ∃ n, n = (l[2]'(by omega)).toNat := ⟨_, rfl⟩
 have hx2 : n2 < 256 := by rw [hn2]; exact UInt8.toNat_lt _
 rw [← hn2] at H2
 have HN2 := Lib.hid hn2
 clear hn2
 obtain ⟨n3, hn3⟩ : ∃ n, n = (l[3]'(by omega)).toNat := ⟨_, rfl⟩
 have hx3 : n3 < 256 := by rw [hn3]; exact UInt8.toNat_lt _
 rw [← hn3] at H3
 have HN3 := Lib.hid hn3
 clear hn3
 obtain ⟨n4, hn4⟩ : ∃ n, n = (l[4]'(by omega)).toNat := ⟨_, rfl⟩
 have hx4 : n4 < 256 := by rw [hn4]; exact UInt8.toNat_lt _
 rw [← hn4] at H4
 have HN4 := Lib.hid hn4
 clear hn4
 obtain ⟨n5, hn5⟩ : ∃ n, n = (l[5]'(by omega)).toNat := ⟨_, rfl⟩
 have hx5 : n5 < 256 := by rw [hn5]; exact UInt8.toNat_lt _
 rw [← hn5] at H5
 have HN5 := Lib.hid hn5
 clear hn5
 obtain ⟨n6, hn6⟩ : ∃ n, n = (l[6]'(by omega)).toNat := ⟨_, rfl⟩
 have hx6 : n6 < 256 := by rw [hn6]; exact UInt8.toNat_lt _
 rw [← hn6] at H6
 have HN6 := Lib.hid hn6
 clear hn6
 obtain ⟨n7, hn7⟩ : ∃ n, n = (l[7]'(by omega)).toNat := ⟨_, rfl⟩
 have hx7 : n7 < 256 := by rw [hn7]; exact UInt8.toNat_lt _
 rw [← hn7] at H7
 have HN7 := Lib.hid hn7
 clear hn7
 obtain ⟨n8, hn8⟩ : ∃ n, n = (l[8]'(by omega)).toNat := ⟨_, rfl⟩
 have hx8 : n8 < 256 := by rw [hn8]; exact UInt8.toNat_lt _
 rw [← hn8] at H8
 have HN8 := Lib.hid hn8
 clear hn8
 have hw2 : IntKind.i64.wrap (n2 : Int) = (n2 : Int) := by rw [IntKind.wrap_i64]; omega
 have hw3 : IntKind.i64.wrap (n3 : Int) = (n3 : Int) := by rw [IntKind.wrap_i64]; omega
 have hw4 : IntKind.i64.wrap (n4 : Int) = (n4 : Int) := by rw [IntKind.wrap_i64]; omega
 have hw5 : IntKind.i64.wrap (n5 : Int) = (n5 : Int) := by rw [IntKind.wrap_i64]; omega
 have hw6 : IntKind.i64.wrap (n6 : Int) = (n6 : Int) := by rw [IntKind.wrap_i64]; omega
 have hw7 : IntKind.i64.wrap (n7 : Int) = (n7 : Int) := by rw [IntKind.wrap_i64]; omega
 have hw8 : IntKind.i64.wrap (n8 : Int) = (n8 : Int) := by rw [IntKind.wrap_i64]; omega
 have hs2 : IntKind.i64.wrap ((n2 : Int) * 16777216) = (n2 : Int) * 16777216 := by rw [IntKind.wrap_i64]; omega
 have hs3 : IntKind.i64.wrap ((n3 : Int) * 65536) = (n3 : Int) * 65536 := by rw [IntKind.wrap_i64]; omega
 have hs4 : IntKind.i64.wrap ((n4 : Int) * 256) = (n4 : Int) * 256 := by rw [IntKind.wrap_i64]; omega
 have hs7 : IntKind.i64.wrap ((n7 : Int) * 256) = (n7 : Int) * 256 := by rw [IntKind.wrap_i64]; omega
 obtain ⟨P1, hP1⟩ : ∃ P, P = n2 * 16777216 + n3 * 65536 := ⟨_, rfl⟩
 have ho1 : bits .or .i64 ((n2 : Int) * 16777216) ((n3 : Int) * 65536) = (P1 : Int) := by
  have h := or_i64 (n2 * 16777216) (n3 * 65536) (by omega) (by omega)
  rw [hw_or1 n2 n3 (by omega), ← hP1] at h
  simpa using h
 obtain ⟨P2, hP2⟩ : ∃ P, P = P1 + n4 * 256 := ⟨_, rfl⟩
 have ho2 : bits .or .i64 (P1 : Int) ((n4 : Int) * 256) = (P2 : Int) := by
  have h := or_i64 P1 (n4 * 256) (by omega) (by omega)
  rw [hP1, hw_or2 n2 n3 n4 (by omega), ← hP1, ← hP2] at h
  simpa using h
 obtain ⟨EP, hEP⟩ : ∃ P, P = P2 + n5 := ⟨_, rfl⟩
 have ho3 : bits .or .i64 (P2 : Int) (n5 : Int) = (EP : Int) := by
  have h := or_i64 P2 n5 (by omega) (by omega)
  rw [hP2, hP1, hw_or3 n2 n3 n4 n5 (by omega), ← hP1, ← hP2, ← hEP] at h
  exact h
 obtain ⟨PG, hPG⟩ : ∃ P, P = n7 * 256 + n8 := ⟨_, rfl⟩
 have ho4 : bits .or .i64 ((n7 : Int) * 256) (n8 : Int) = (PG : Int) := by
  have h := or_i64 (n7 * 256) n8 (by omega) (by omega)
  rw [hw_or4 n7 n8 (by omega), ← hPG] at h
  simpa using h
 have HEP := Lib.hid (show EP = n2 * 16777216 + n3 * 65536 + n4 * 256 + n5 by omega)
 have HPG := Lib.hid hPG
 have he : Str.hEp l = EP := by rw [HEP.out, HN2.out, HN3.out, HN4.out, HN5.out]; unfold Str.hEp; simp only [List.getD_eq_getElem?_getD]; rw [List.getElem?_eq_getElem (by omega), List.getElem?_eq_getElem (by omega), List.getElem?_eq_getElem (by omega), List.getElem?_eq_getElem (by omega)]; rfl
 have ha : Str.hAr l = n6 := by rw [HN6.out]; unfold Str.hAr; rw [List.getD_eq_getElem?_getD, List.getElem?_eq_getElem (by omega)]; rfl
 have hpg : Str.hPg l = PG := by rw [HPG.out, HN7.out, HN8.out]; unfold Str.hPg; simp only [List.getD_eq_getElem?_getD]; rw [List.getElem?_eq_getElem (by omega), List.getElem?_eq_getElem (by omega)]; rfl
 have hok : Str.hOk l most = if 1 ≤ EP ∧ EP ≤ 1073741824 ∧ n6 < 2 ∧ 1 ≤ PG ∧ PG ≤ most then (Str.headL EP n6 PG == l) else false := by unfold Str.hOk; rw [he, ha, hpg]
 rw [he, ha, hpg]
 have HOK := Lib.hid hok
 clear hP1 hP2 hEP hPG he ha hpg hok
 clear hc
 go_enter Try.func45, Try.ntmps45
 go_wp2
 refine wp_region_held_drew (S := Below w.heap.size w) (by kernel_rfl) (((Below.refl _ _).alloc (Nat.le_refl _) _).drew) (fun hHeld => ?_)
 refine wpAnyH_take (i := 0) (oi := { dst := some 8, op := Op.move (Operand.tmp 0), type := 22, pos := "lay.go:51", after := #[], guard := none }) (v := ?_) rfl (by kernel_rfl) (by kernel_rfl) (by kernel_rfl) (fun _ _ _ h => h) (Or.inl ⟨by rfl, ?_⟩) (by assumption) ?_
 rotate_left
 ·intro X hSw; go_simp; try (with_reducible rfl)
 try simp only [Act.put, List.setIfInBounds_toArray, List.set_cons_zero, List.set_cons_succ]
 refine wpAnyH_take (i := 1) (oi := { dst := some 9, op := Op.indexAddr 22 (Operand.tmp 8) (Operand.const (Value.int IntKind.i64 2)), type := 0, pos := "lay.go:51", after := #[{ on := 0, ground := Ground.data }], guard := none }) (v := ?_) rfl (by kernel_rfl) (by kernel_rfl) (by kernel_rfl) (fun _ _ _ h => h) (Or.inl ⟨by rfl, ?_⟩) (by assumption) ?_
 rotate_left
 ·intro X hSw; go_simp; try (with_reducible rfl)
 try simp only [Act.put, List.setIfInBounds_toArray, List.set_cons_zero, List.set_cons_succ]
 refine wpAnyH_take (i := 2) (oi := { dst := some 10, op := Op.load 5 (Operand.tmp 9), type := 5, pos := "lay.go:51", after := #[{ on := 1, ground := Ground.data }], guard := none }) (v := ?_) rfl (by kernel_rfl) (by kernel_rfl) (by kernel_rfl) (fun _ _ _ h => h) (Or.inl ⟨by rfl, ?_⟩) (by assumption) ?_
 rotate_left
 ·intro X hSw; have hq := H2.out X hSw; go_simp; try (with_reducible rfl)
 try simp only [Act.put, List.setIfInBounds_toArray, List.set_cons_zero, List.set_cons_succ]
 refine wpAnyH_take (i := 3) (oi := { dst := some 11, op := Op.convert 5 3 (Operand.tmp 10), type := 3, pos := "lay.go:51", after := #[{ on := 2, ground := Ground.data }], guard := none }) (v := ?_) rfl (by kernel_rfl) (by kernel_rfl) (by kernel_rfl) (fun _ _ _ h => h) (Or.inl ⟨by rfl, ?_⟩) (by assumption) ?_
 rotate_left
 ·intro X hSw; go_simp; try (with_reducible rfl)
 try simp only [Act.put, List.setIfInBounds_toArray, List.set_cons_zero, List.set_cons_succ]
 refine wpAnyH_take (i := 4) (oi := { dst := some 12, op := Op.binOp BinOp.shl 3 (Operand.tmp 11) (Operand.const (Value.int IntKind.u64 24)) 126, type := 3, pos := "lay.go:51", after := #[{ on := 3, ground := Ground.data }], guard := none }) (v := ?_) rfl (by kernel_rfl) (by kernel_rfl) (by kernel_rfl) (fun _ _ _ h => h) (Or.inl ⟨by rfl, ?_⟩) (by assumption) ?_
 rotate_left
 ·intro X hSw; go_simp; try (with_reducible rfl)
 try simp only [Act.put, List.setIfInBounds_toArray, List.set_cons_zero, List.set_cons_succ]
 refine wpAnyH_take (i := 5) (oi := { dst := some 13, op := Op.move (Operand.tmp 0), type := 22, pos := "lay.go:51", after := #[], guard := none }) (v := ?_) rfl (by kernel_rfl) (by kernel_rfl) (by kernel_rfl) (fun _ _ _ h => h) (Or.inl ⟨by rfl, ?_⟩) (by assumption) ?_
 rotate_left
 ·intro X hSw; go_simp; try (with_reducible rfl)
 try simp only [Act.put, List.setIfInBounds_toArray, List.set_cons_zero, List.set_cons_succ]
 refine wpAnyH_take (i := 6) (oi := { dst := some 14, op := Op.indexAddr 22 (Operand.tmp 13) (Operand.const (Value.int IntKind.i64 3)), type := 0, pos := "lay.go:51", after := #[{ on := 5, ground := Ground.data }], guard := none }) (v := ?_) rfl (by kernel_rfl) (by kernel_rfl) (by kernel_rfl) (fun _ _ _ h => h) (Or.inl ⟨by rfl, ?_⟩) (by assumption) ?_
 rotate_left
 ·intro X hSw; go_simp; try (with_reducible rfl)
 try simp only [Act.put, List.setIfInBounds_toArray, List.set_cons_zero, List.set_cons_succ]
 refine wpAnyH_take (i := 7) (oi := { dst := some 15, op := Op.load 5 (Operand.tmp 14), type := 5, pos := "lay.go:51", after := #[{ on := 6, ground := Ground.data }], guard := none }) (v := ?_) rfl (by kernel_rfl) (by kernel_rfl) (by kernel_rfl) (fun _ _ _ h => h) (Or.inl ⟨by rfl, ?_⟩) (by assumption) ?_
 rotate_left
 ·intro X hSw; have hq := H3.out X hSw; go_simp; try (with_reducible rfl)
 try simp only [Act.put, List.setIfInBounds_toArray, List.set_cons_zero, List.set_cons_succ]
 refine wpAnyH_take (i := 8) (oi := { dst := some 16, op := Op.convert 5 3 (Operand.tmp 15), type := 3, pos := "lay.go:51", after := #[{ on := 7, ground := Ground.data }], guard := none }) (v := ?_) rfl (by kernel_rfl) (by kernel_rfl) (by kernel_rfl) (fun _ _ _ h => h) (Or.inl ⟨by rfl, ?_⟩) (by assumption) ?_
 rotate_left
 ·intro X hSw; go_simp; try (with_reducible rfl)
 try simp only [Act.put, List.setIfInBounds_toArray, List.set_cons_zero, List.set_cons_succ]
 refine wpAnyH_take (i := 9) (oi := { dst := some 17, op := Op.binOp BinOp.shl 3 (Operand.tmp 16) (Operand.const (Value.int IntKind.u64 16)) 126, type := 3, pos := "lay.go:51", after := #[{ on := 8, ground := Ground.data }], guard := none }) (v := ?_) rfl (by kernel_rfl) (by kernel_rfl) (by kernel_rfl) (fun _ _ _ h => h) (Or.inl ⟨by rfl, ?_⟩) (by assumption) ?_
 rotate_left
 ·intro X hSw; go_simp; try (with_reducible rfl)
 try simp only [Act.put, List.setIfInBounds_toArray, List.set_cons_zero, List.set_cons_succ]
 refine wpAnyH_take (i := 10) (oi := { dst := some 18, op := Op.binOp BinOp.or 3 (Operand.tmp 12) (Operand.tmp 17) 3, type := 3, pos := "lay.go:51", after := #[{ on := 4, ground := Ground.data }, { on := 9, ground := Ground.data }], guard := none }) (v := ?_) rfl (by kernel_rfl) (by kernel_rfl) (by kernel_rfl) (fun _ _ _ h => h) (Or.inl ⟨by rfl, ?_⟩) (by assumption) ?_
 rotate_left
 ·intro X hSw; go_simp; try (with_reducible rfl)
 try simp only [Act.put, List.setIfInBounds_toArray, List.set_cons_zero, List.set_cons_succ]
 refine wpAnyH_take (i := 11) (oi := { dst := some 19, op := Op.move (Operand.tmp 0), type := 22, pos := "lay.go:51", after := #[], guard := none }) (v := ?_) rfl (by kernel_rfl) (by kernel_rfl) (by kernel_rfl) (fun _ _ _ h => h) (Or.inl ⟨by rfl, ?_⟩) (by assumption) ?_
 rotate_left
 ·intro X hSw; go_simp; try (with_reducible rfl)
 try simp only [Act.put, List.setIfInBounds_toArray, List.set_cons_zero, List.set_cons_succ]
 refine wpAnyH_take (i := 12) (oi := { dst := some 20, op := Op.indexAddr 22 (Operand.tmp 19) (Operand.const (Value.int IntKind.i64 4)), type := 0, pos := "lay.go:51", after := #[{ on := 11, ground := Ground.data }], guard := none }) (v := ?_) rfl (by kernel_rfl) (by kernel_rfl) (by kernel_rfl) (fun _ _ _ h => h) (Or.inl ⟨by rfl, ?_⟩) (by assumption) ?_
 rotate_left
 ·intro X hSw; go_simp; try (with_reducible rfl)
 try simp only [Act.put, List.setIfInBounds_toArray, List.set_cons_zero, List.set_cons_succ]
 refine wpAnyH_take (i := 13) (oi := { dst := some 21, op := Op.load 5 (Operand.tmp 20), type := 5, pos := "lay.go:51", after := #[{ on := 12, ground := Ground.data }], guard := none }) (v := ?_) rfl (by kernel_rfl) (by kernel_rfl) (by kernel_rfl) (fun _ _ _ h => h) (Or.inl ⟨by rfl, ?_⟩) (by assumption) ?_
 rotate_left
 ·intro X hSw; have hq := H4.out X hSw; go_simp; try (with_reducible rfl)
 try simp only [Act.put, List.setIfInBounds_toArray, List.set_cons_zero, List.set_cons_succ]
 refine wpAnyH_take (i := 14) (oi := { dst := some 22, op := Op.convert 5 3 (Operand.tmp 21), type := 3, pos := "lay.go:51", after := #[{ on := 13, ground := Ground.data }], guard := none }) (v := ?_) rfl (by kernel_rfl) (by kernel_rfl) (by kernel_rfl) (fun _ _ _ h => h) (Or.inl ⟨by rfl, ?_⟩) (by assumption) ?_
 rotate_left
 ·intro X hSw; go_simp; try (with_reducible rfl)
 try simp only [Act.put, List.setIfInBounds_toArray, List.set_cons_zero, List.set_cons_succ]
 refine wpAnyH_take (i := 15) (oi := { dst := some 23, op := Op.binOp BinOp.shl 3 (Operand.tmp 22) (Operand.const (Value.int IntKind.u64 8)) 126, type := 3, pos := "lay.go:51", after := #[{ on := 14, ground := Ground.data }], guard := none }) (v := ?_) rfl (by kernel_rfl) (by kernel_rfl) (by kernel_rfl) (fun _ _ _ h => h) (Or.inl ⟨by rfl, ?_⟩) (by assumption) ?_
 rotate_left
 ·intro X hSw; go_simp; try (with_reducible rfl)
 try simp only [Act.put, List.setIfInBounds_toArray, List.set_cons_zero, List.set_cons_succ]
 refine wpAnyH_take (i := 16) (oi := { dst := some 24, op := Op.binOp BinOp.or 3 (Operand.tmp 18) (Operand.tmp 23) 3, type := 3, pos := "lay.go:51", after := #[{ on := 10, ground := Ground.data }, { on := 15, ground := Ground.data }], guard := none }) (v := ?_) rfl (by kernel_rfl) (by kernel_rfl) (by kernel_rfl) (fun _ _ _ h => h) (Or.inl ⟨by rfl, ?_⟩) (by assumption) ?_
 rotate_left
 ·intro X hSw; go_simp; try (with_reducible rfl)
 try simp only [Act.put, List.setIfInBounds_toArray, List.set_cons_zero, List.set_cons_succ]
 refine wpAnyH_take (i := 17) (oi := { dst := some 25, op := Op.move (Operand.tmp 0), type := 22, pos := "lay.go:51", after := #[], guard := none }) (v := ?_) rfl (by kernel_rfl) (by kernel_rfl) (by kernel_rfl) (fun _ _ _ h => h) (Or.inl ⟨by rfl, ?_⟩) (by assumption) ?_
 rotate_left
 ·intro X hSw; go_simp; try (with_reducible rfl)
 try simp only [Act.put, List.setIfInBounds_toArray, List.set_cons_zero, List.set_cons_succ]
 refine wpAnyH_take (i := 18) (oi := { dst := some 26, op := Op.indexAddr 22 (Operand.tmp 25) (Operand.const (Value.int IntKind.i64 5)), type := 0, pos := "lay.go:51", after := #[{ on := 17, ground := Ground.data }], guard := none }) (v := ?_) rfl (by kernel_rfl) (by kernel_rfl) (by kernel_rfl) (fun _ _ _ h => h) (Or.inl ⟨by rfl, ?_⟩) (by assumption) ?_
 rotate_left
 ·intro X hSw; go_simp; try (with_reducible rfl)
 try simp only [Act.put, List.setIfInBounds_toArray, List.set_cons_zero, List.set_cons_succ]
 refine wpAnyH_take (i := 19) (oi := { dst := some 27, op := Op.load 5 (Operand.tmp 26), type := 5, pos := "lay.go:51", after := #[{ on := 18, ground := Ground.data }], guard := none }) (v := ?_) rfl (by kernel_rfl) (by kernel_rfl) (by kernel_rfl) (fun _ _ _ h => h) (Or.inl ⟨by rfl, ?_⟩) (by assumption) ?_
 rotate_left
 ·intro X hSw; have hq := H5.out X hSw; go_simp; try (with_reducible rfl)
 try simp only [Act.put, List.setIfInBounds_toArray, List.set_cons_zero, List.set_cons_succ]
 refine wpAnyH_take (i := 20) (oi := { dst := some 28, op := Op.convert 5 3 (Operand.tmp 27), type := 3, pos := "lay.go:51", after := #[{ on := 19, ground := Ground.data }], guard := none }) (v := ?_) rfl (by kernel_rfl) (by kernel_rfl) (by kernel_rfl) (fun _ _ _ h => h) (Or.inl ⟨by rfl, ?_⟩) (by assumption) ?_
 rotate_left
 ·intro X hSw; go_simp; try (with_reducible rfl)
 try simp only [Act.put, List.setIfInBounds_toArray, List.set_cons_zero, List.set_cons_succ]
 refine wpAnyH_take (i := 21) (oi := { dst := some 29, op := Op.binOp BinOp.or 3 (Operand.tmp 24) (Operand.tmp 28) 3, type := 3, pos := "lay.go:51", after := #[{ on := 16, ground := Ground.data }, { on := 20, ground := Ground.data }], guard := none }) (v := ?_) rfl (by kernel_rfl) (by kernel_rfl) (by kernel_rfl) (fun _ _ _ h => h) (Or.inl ⟨by rfl, ?_⟩) (by assumption) ?_
 rotate_left
 ·intro X hSw; go_simp; try (with_reducible rfl)
 try simp only [Act.put, List.setIfInBounds_toArray, List.set_cons_zero, List.set_cons_succ]
 refine wpAnyH_take (i := 22) (oi := { dst := some 30, op := Op.move (Operand.tmp 0), type := 22, pos := "lay.go:51", after := #[], guard := none }) (v := ?_) rfl (by kernel_rfl) (by kernel_rfl) (by kernel_rfl) (fun _ _ _ h => h) (Or.inl ⟨by rfl, ?_⟩) (by assumption) ?_
 rotate_left
 ·intro X hSw; go_simp; try (with_reducible rfl)
 try simp only [Act.put, List.setIfInBounds_toArray, List.set_cons_zero, List.set_cons_succ]
 refine wpAnyH_take (i := 23) (oi := { dst := some 31, op := Op.indexAddr 22 (Operand.tmp 30) (Operand.const (Value.int IntKind.i64 6)), type := 0, pos := "lay.go:51", after := #[{ on := 22, ground := Ground.data }], guard := none }) (v := ?_) rfl (by kernel_rfl) (by kernel_rfl) (by kernel_rfl) (fun _ _ _ h => h) (Or.inl ⟨by rfl, ?_⟩) (by assumption) ?_
 rotate_left
 ·intro X hSw; go_simp; try (with_reducible rfl)
 try simp only [Act.put, List.setIfInBounds_toArray, List.set_cons_zero, List.set_cons_succ]
 refine wpAnyH_take (i := 24) (oi := { dst := some 32, op := Op.load 5 (Operand.tmp 31), type := 5, pos := "lay.go:51", after := #[{ on := 23, ground := Ground.data }], guard := none }) (v := ?_) rfl (by kernel_rfl) (by kernel_rfl) (by kernel_rfl) (fun _ _ _ h => h) (Or.inl ⟨by rfl, ?_⟩) (by assumption) ?_
 rotate_left
 ·intro X hSw; have hq := H6.out X hSw; go_simp; try (with_reducible rfl)
 try simp only [Act.put, List.setIfInBounds_toArray, List.set_cons_zero, List.set_cons_succ]
 refine wpAnyH_take (i := 25) (oi := { dst := some 33, op := Op.convert 5 3 (Operand.tmp 32), type := 3, pos := "lay.go:51", after := #[{ on := 24, ground := Ground.data }], guard := none }) (v := ?_) rfl (by kernel_rfl) (by kernel_rfl) (by kernel_rfl) (fun _ _ _ h => h) (Or.inl ⟨by rfl, ?_⟩) (by assumption) ?_
 rotate_left
 ·intro X hSw; go_simp; try (with_reducible rfl)
 try simp only [Act.put, List.setIfInBounds_toArray, List.set_cons_zero, List.set_cons_succ]
 refine wpAnyH_take (i := 26) (oi := { dst := some 34, op := Op.move (Operand.tmp 0), type := 22, pos := "lay.go:51", after := #[], guard := none }) (v := ?_) rfl (by kernel_rfl) (by kernel_rfl) (by kernel_rfl) (fun _ _ _ h => h) (Or.inl ⟨by rfl, ?_⟩) (by assumption) ?_
 rotate_left
 ·intro X hSw; go_simp; try (with_reducible rfl)
 try simp only [Act.put, List.setIfInBounds_toArray, List.set_cons_zero, List.set_cons_succ]
 refine wpAnyH_take (i := 27) (oi := { dst := some 35, op := Op.indexAddr 22 (Operand.tmp 34) (Operand.const (Value.int IntKind.i64 7)), type := 0, pos := "lay.go:51", after := #[{ on := 26, ground := Ground.data }], guard := none }) (v := ?_) rfl (by kernel_rfl) (by kernel_rfl) (by kernel_rfl) (fun _ _ _ h => h) (Or.inl ⟨by rfl, ?_⟩) (by assumption) ?_
 rotate_left
 ·intro X hSw; go_simp; try (with_reducible rfl)
 try simp only [Act.put, List.setIfInBounds_toArray, List.set_cons_zero, List.set_cons_succ]
 refine wpAnyH_take (i := 28) (oi := { dst := some 36, op := Op.load 5 (Operand.tmp 35), type := 5, pos := "lay.go:51", after := #[{ on := 27, ground := Ground.data }], guard := none }) (v := ?_) rfl (by kernel_rfl) (by kernel_rfl) (by kernel_rfl) (fun _ _ _ h => h) (Or.inl ⟨by rfl, ?_⟩) (by assumption) ?_
 rotate_left
 ·intro X hSw; have hq := H7.out X hSw; go_simp; try (with_reducible rfl)
 try simp only [Act.put, List.setIfInBounds_toArray, List.set_cons_zero, List.set_cons_succ]
 refine wpAnyH_take (i := 29) (oi := { dst := some 37, op := Op.convert 5 3 (Operand.tmp 36), type := 3, pos := "lay.go:51", after := #[{ on := 28, ground := Ground.data }], guard := none }) (v := ?_) rfl (by kernel_rfl) (by kernel_rfl) (by kernel_rfl) (fun _ _ _ h => h) (Or.inl ⟨by rfl, ?_⟩) (by assumption) ?_
 rotate_left
 ·intro X hSw; go_simp; try (with_reducible rfl)
 try simp only [Act.put, List.setIfInBounds_toArray, List.set_cons_zero, List.set_cons_succ]
 refine wpAnyH_take (i := 30) (oi := { dst := some 38, op := Op.binOp BinOp.shl 3 (Operand.tmp 37) (Operand.const (Value.int IntKind.u64 8)) 126, type := 3, pos := "lay.go:51", after := #[{ on := 29, ground := Ground.data }], guard := none }) (v := ?_) rfl (by kernel_rfl) (by kernel_rfl) (by kernel_rfl) (fun _ _ _ h => h) (Or.inl ⟨by rfl, ?_⟩) (by assumption) ?_
 rotate_left
 ·intro X hSw; go_simp; try (with_reducible rfl)
 try simp only [Act.put, List.setIfInBounds_toArray, List.set_cons_zero, List.set_cons_succ]
 refine wpAnyH_take (i := 31) (oi := { dst := some 39, op := Op.move (Operand.tmp 0), type := 22, pos := "lay.go:51", after := #[], guard := none }) (v := ?_) rfl (by kernel_rfl) (by kernel_rfl) (by kernel_rfl) (fun _ _ _ h => h) (Or.inl ⟨by rfl, ?_⟩) (by assumption) ?_
 rotate_left
 ·intro X hSw; go_simp; try (with_reducible rfl)
 try simp only [Act.put, List.setIfInBounds_toArray, List.set_cons_zero, List.set_cons_succ]
 refine wpAnyH_take (i := 32) (oi := { dst := some 40, op := Op.indexAddr 22 (Operand.tmp 39) (Operand.const (Value.int IntKind.i64 8)), type := 0, pos := "lay.go:51", after := #[{ on := 31, ground := Ground.data }], guard := none }) (v := ?_) rfl (by kernel_rfl) (by kernel_rfl) (by kernel_rfl) (fun _ _ _ h => h) (Or.inl ⟨by rfl, ?_⟩) (by assumption) ?_
 rotate_left
 ·intro X hSw; go_simp; try (with_reducible rfl)
 try simp only [Act.put, List.setIfInBounds_toArray, List.set_cons_zero, List.set_cons_succ]
 refine wpAnyH_take (i := 33) (oi := { dst := some 41, op := Op.load 5 (Operand.tmp 40), type := 5, pos := "lay.go:51", after := #[{ on := 32, ground := Ground.data }], guard := none }) (v := ?_) rfl (by kernel_rfl) (by kernel_rfl) (by kernel_rfl) (fun _ _ _ h => h) (Or.inl ⟨by rfl, ?_⟩) (by assumption) ?_
 rotate_left
 ·intro X hSw; have hq := H8.out X hSw; go_simp; try (with_reducible rfl)
 try simp only [Act.put, List.setIfInBounds_toArray, List.set_cons_zero, List.set_cons_succ]
 refine wpAnyH_take (i := 34) (oi := { dst := some 42, op := Op.convert 5 3 (Operand.tmp 41), type := 3, pos := "lay.go:51", after := #[{ on := 33, ground := Ground.data }], guard := none }) (v := ?_) rfl (by kernel_rfl) (by kernel_rfl) (by kernel_rfl) (fun _ _ _ h => h) (Or.inl ⟨by rfl, ?_⟩) (by assumption) ?_
 rotate_left
 ·intro X hSw; go_simp; try (with_reducible rfl)
 try simp only [Act.put, List.setIfInBounds_toArray, List.set_cons_zero, List.set_cons_succ]
 refine wpAnyH_take (i := 35) (oi := { dst := some 43, op := Op.binOp BinOp.or 3 (Operand.tmp 38) (Operand.tmp 42) 3, type := 3, pos := "lay.go:51", after := #[{ on := 30, ground := Ground.data }, { on := 34, ground := Ground.data }], guard := none }) (v := ?_) rfl (by kernel_rfl) (by kernel_rfl) (by kernel_rfl) (fun _ _ _ h => h) (Or.inl ⟨by rfl, ?_⟩) (by assumption) ?_
 rotate_left
 ·intro X hSw; go_simp; try (with_reducible rfl)
 try simp only [Act.put, List.setIfInBounds_toArray, List.set_cons_zero, List.set_cons_succ]
 refine wpAnyH_take (i := 36) (oi := { dst := some 44, op := Op.build 59 #[(0, Operand.tmp 29), (1, Operand.tmp 33), (2, Operand.tmp 43)], type := 59, pos := "lay.go:51", after := #[{ on := 21, ground := Ground.data }, { on := 25, ground := Ground.data }, { on := 35, ground := Ground.data }], guard := none }) (v := ?_) rfl (by kernel_rfl) (by kernel_rfl) (by kernel_rfl) (fun _ _ _ h => h) (Or.inl ⟨by rfl, ?_⟩) (by assumption) ?_
 rotate_left
 ·intro X hSw; go_simp; try (with_reducible rfl)
 try simp only [Act.put, List.setIfInBounds_toArray, List.set_cons_zero, List.set_cons_succ]
 refine wpAnyH_ready (rs := [37]) (by kernel_rfl) (by simp) ?_
 refine AllReadyH.cons (o := { dst := some 6, op := Op.alloc 59, type := 0, pos := "lay.go:51", after := #[], guard := none }) rfl (fun K hK => ?_) AllReadyH.nil
 go_simp
 try (go_wp2_with fail)
 have hHeld' := (show Below w.heap.size w ((w.alloc (.cells #[.int .i64 0, .int .i64 0, .int .i64 0] 59)).alloc (.cells #[.int .i64 0, .int .i64 0, .int .i64 0] 59)).drew from (((Below.refl _ w).alloc (Nat.le_refl _) _).alloc (by simp) _).drew)
 refine hK.out _ _ ?_ (fun _ => ?_)
 ·exact hHeld'
 clear hK K hHeld
 have hHeld := hHeld'
 clear hHeld'
 try simp only [Act.put, List.setIfInBounds_toArray, List.set_cons_zero, List.set_cons_succ]
 refine wpAnyH_ready (rs := [38]) (by kernel_rfl) (by simp) ?_
 refine AllReadyH.cons (o := { dst := none, op := Op.store 59 (Operand.tmp 6) (Operand.tmp 44), type := 0, pos := "lay.go:51", after := #[{ on := 37, ground := Ground.data }, { on := 36, ground := Ground.data }, { on := 0, ground := Ground.phase }, { on := 1, ground := Ground.phase }, { on := 2, ground := Ground.phase }, { on := 3, ground := Ground.phase }, { on := 4, ground := Ground.phase }, { on := 5, ground := Ground.phase }, { on := 6, ground := Ground.phase }, { on := 7, ground := Ground.phase }, { on := 8, ground := Ground.phase }, { on := 9, ground := Ground.phase }, { on := 10, ground := Ground.phase }, { on := 11, ground := Ground.phase }, { on := 12, ground := Ground.phase }, { on := 13, ground := Ground.phase }, { on := 14, ground := Ground.phase }, { on := 15, ground := Ground.phase }, { on := 16, ground := Ground.phase }, { on := 17, ground := Ground.phase }, { on := 18, ground := Ground.phase }, { on := 19, ground := Ground.phase }, { on := 20, ground := Ground.phase }, { on := 21, ground := Ground.phase }, { on := 22, ground := Ground.phase }, { on := 23, ground := Ground.phase }, { on := 24, ground := Ground.phase }, { on := 25, ground := Ground.phase }, { on := 26, ground := Ground.phase }, { on := 27, ground := Ground.phase }, { on := 28, ground := Ground.phase }, { on := 29, ground := Ground.phase }, { on := 30, ground := Ground.phase }, { on := 31, ground := Ground.phase }, { on := 32, ground := Ground.phase }, { on := 33, ground := Ground.phase }, { on := 34, ground := Ground.phase }, { on := 35, ground := Ground.phase }, { on := 36, ground := Ground.phase }, { on := 37, ground := Ground.phase }], guard := none }) rfl (fun K hK => ?_) AllReadyH.nil
 go_simp
 try (go_wp2_with fail)
 have hHeld' := (show Below w.heap.size w ((w.alloc (.cells #[.int .i64 0, .int .i64 0, .int .i64 0] 59)).alloc (.cells #[.int .i64 (EP : Int), .int .i64 (n6 : Int), .int .i64 (PG : Int)] 59)).drew from (((Below.refl _ w).alloc (Nat.le_refl _) _).alloc (by simp) _).drew)
 refine hK.out _ _ ?_ (fun _ => ?_)
 ·exact hHeld'
 clear hK K hHeld
 have hHeld := hHeld'
 clear hHeld'
 try simp only [Act.put, List.setIfInBounds_toArray, List.set_cons_zero, List.set_cons_succ]
 refine wpAnyH_done (by kernel_rfl) ?_ _
 obtain ⟨W2, hW2⟩ : ∃ W2, W2 = ((w.alloc (.cells #[.int .i64 0, .int .i64 0, .int .i64 0] 59)).alloc (.cells #[.int .i64 (EP : Int), .int .i64 (n6 : Int), .int .i64 (PG : Int)] 59)).drew := ⟨_, rfl⟩
 rw [← hW2] at hHeld ⊢
 have hb6 : Dv.Blk W2 (w.heap.size + 1) 59 #[.int .i64 (EP : Int), .int .i64 (n6 : Int), .int .i64 (PG : Int)] := by rw [hW2]; have h := heap_alloc_new (w.alloc (.cells #[.int .i64 0, .int .i64 0, .int .i64 0] 59)) (.cells #[.int .i64 (EP : Int), .int .i64 (n6 : Int), .int .i64 (PG : Int)] 59); rw [World.size_alloc] at h; exact h
 have hb4 : Dv.Blk W2 w.heap.size 59 #[.int .i64 0, .int .i64 0, .int .i64 0] := by rw [hW2]; exact (Below.heap_alloc _ _ _ (by simp)).trans (heap_alloc_new w _)
 have HB6 := Lib.hid hb6
 have HB4 := Lib.hid hb4
 have HBEL := Lib.hid hHeld
 have q0 := hb6.cell 0
 have q1 := hb6.cell 1
 have q2 := hb6.cell 2
 simp at q0 q1 q2
 clear hW2 hHeld hb6 hb4
 clear hw2 hw3 hw4 hw5 hw6 hw7 hw8 hs2 hs3 hs4 hs7 ho1 ho2 ho3 ho4
 by_cases hA : (1 : Int) ≤ (EP : Int)
 ·by_cases hB : (EP : Int) ≤ 1073741824
  ·by_cases hC : (n6 : Int) < 2
   ·by_cases hD : (1 : Int) ≤ (PG : Int)
    ·by_cases hE : (PG : Int) ≤ (most : Int)
     ·go_wp2
      refine wp_region_held_drew (S := fun X => Dv.Blk X (w.heap.size + 1) 59 #[.int .i64 (EP : Int), .int .i64 (n6 : Int), .int .i64 (PG : Int)]) (by kernel_rfl) HB6.out (fun hHeld => ?_)
      refine wpAnyH_take (i := 0) (oi := { dst := some 69, op := Op.load 59 (Operand.tmp 6), type := 59, pos := "lay.go:57", after := #[], guard := none }) (v := ?_) rfl (by kernel_rfl) (by kernel_rfl) (by kernel_rfl) (fun _ _ _ h => h) (Or.inl ⟨by rfl, ?_⟩) (by assumption) ?_
      rotate_left
      ·intro X hSw; have z0 := hSw.cell 0; have z1 := hSw.cell 1; have z2 := hSw.cell 2; simp at z0 z1 z2; go_simp; try (with_reducible rfl)
      try simp only [Act.put, List.setIfInBounds_toArray, List.set_cons_zero, List.set_cons_succ]
      refine wpAnyH_take (i := 1) (oi := { dst := some 70, op := Op.move (Operand.tmp 7), type := 4, pos := "lay.go:57", after := #[], guard := none }) (v := ?_) rfl (by kernel_rfl) (by kernel_rfl) (by kernel_rfl) (fun _ _ _ h => h) (Or.inl ⟨by rfl, ?_⟩) (by assumption) ?_
      rotate_left
      ·intro X hSw; go_simp; try (with_reducible rfl)
      try simp only [Act.put, List.setIfInBounds_toArray, List.set_cons_zero, List.set_cons_succ]
      refine wpAnyH_take (i := 2) (oi := { dst := some 71, op := Op.move (Operand.tmp 70), type := 4, pos := "lay.go:57", after := #[{ on := 1, ground := Ground.data }], guard := none }) (v := ?_) rfl (by kernel_rfl) (by kernel_rfl) (by kernel_rfl) (fun _ _ _ h => h) (Or.inl ⟨by rfl, ?_⟩) (by assumption) ?_
      rotate_left
      ·intro X hSw; go_simp; try (with_reducible rfl)
      try simp only [Act.put, List.setIfInBounds_toArray, List.set_cons_zero, List.set_cons_succ]
      refine wpAnyH_take (i := 3) (oi := { dst := some 72, op := Op.load 59 (Operand.tmp 6), type := 59, pos := "lay.go:57", after := #[{ on := 2, ground := Ground.guard }], guard := some (2, true) }) (v := ?_) rfl (by kernel_rfl) (by kernel_rfl) (by kernel_rfl) (fun _ _ _ h => h) (Or.inl ⟨by rfl, ?_⟩) (by assumption) ?_
      rotate_left
      ·intro X hSw; have z0 := hSw.cell 0; have z1 := hSw.cell 1; have z2 := hSw.cell 2; simp at z0 z1 z2; go_simp; try (with_reducible rfl)
      try simp only [Act.put, List.setIfInBounds_toArray, List.set_cons_zero, List.set_cons_succ]
      refine wpAnyH_take (i := 5) (oi := { dst := some 74, op := Op.move (Operand.tmp 0), type := 22, pos := "lay.go:57", after := #[{ on := 2, ground := Ground.guard }], guard := some (2, true) }) (v := ?_) rfl (by kernel_rfl) (by kernel_rfl) (by kernel_rfl) (fun _ _ _ h => h) (Or.inl ⟨by rfl, ?_⟩) (by assumption) ?_
      rotate_left
      ·intro X hSw; go_simp; try (with_reducible rfl)
      try simp only [Act.put, List.setIfInBounds_toArray, List.set_cons_zero, List.set_cons_succ]
      refine wpAnyH_ready (rs := [4]) (by kernel_rfl) (by simp) ?_
      refine AllReadyH.cons (o := { dst := some 73, op := Op.call { callee := Callee.value (Operand.func 44), args := #[Operand.tmp 72], argTypes := #[59] }, type := 22, pos := "lay.go:57", after := #[{ on := 3, ground := Ground.data }, { on := 2, ground := Ground.chain }, { on := 2, ground := Ground.guard }], guard := some (2, true) }) rfl (fun K hK => ?_) AllReadyH.nil
      go_simp
      refine (headsec_any EP n6 PG (by omega) (by omega) (by omega) _).mono ?_
      rintro e w7 ⟨v7, rfl, ho7, hb7⟩
      have HB7 := Lib.hid ((Below.refl W2.heap.size W2).drew.trans hb7)
      have HR7 := Lib.hid (RB.own ho7)
      obtain ⟨A7, c7, rfl, _⟩ := own_shape ho7
      have HB67 := Lib.hid (HB6.out.below HB7.out HB6.out.lt)
      have HB47 := Lib.hid (HB4.out.below HB7.out HB4.out.lt)
      clear ho7 hb7
      try (go_wp2_with fail)
      have hHeld' := HB67.out
      refine hK.out _ _ ?_ (fun _ => ?_)
      ·exact hHeld'
      clear hK K hHeld
      have hHeld := hHeld'
      clear hHeld'
      try simp only [Act.put, List.setIfInBounds_toArray, List.set_cons_zero, List.set_cons_succ]
      refine wpAnyH_ready (rs := [6]) (by kernel_rfl) (by simp) ?_
      refine AllReadyH.cons (o := { dst := some 75, op := Op.call { callee := Callee.value (Operand.func 48), args := #[Operand.tmp 73, Operand.tmp 74], argTypes := #[22, 22] }, type := 4, pos := "lay.go:57", after := #[{ on := 4, ground := Ground.data }, { on := 5, ground := Ground.data }, { on := 4, ground := Ground.chain }, { on := 2, ground := Ground.guard }], guard := some (2, true) }) rfl (fun K hK => ?_) AllReadyH.nil
      go_simp
      refine (equal_any _ _ _ l _ HR7.out (HRB.out.below (HBEL.out.trans (HB7.out.mono HBEL.out.size)))).mono ?_
      rintro e w8 ⟨rfl, rfl⟩
      try (go_wp2_with fail)
      refine hK.out _ _ ?_ (fun _ => ?_)
      ·exact hHeld
      clear hK K
      try simp only [Act.put, List.setIfInBounds_toArray, List.set_cons_zero, List.set_cons_succ]
      refine wpAnyH_take (i := 7) (oi := { dst := some 76, op := Op.pick (Operand.tmp 71) (Operand.tmp 75) (Operand.const (Value.bool false)), type := 4, pos := "lay.go:57", after := #[{ on := 2, ground := Ground.data }, { on := 6, ground := Ground.data }, { on := 8, ground := Ground.gcOnly Departure.lateStores }], guard := none }) (v := ?_) rfl (by kernel_rfl) (by kernel_rfl) (by kernel_rfl) (fun _ _ _ h => h) (Or.inl ⟨by rfl, ?_⟩) (by assumption) ?_
      rotate_left
      ·intro X hSw; go_simp; try (with_reducible rfl)
      try simp only [Act.put, List.setIfInBounds_toArray, List.set_cons_zero, List.set_cons_succ]
      refine wpAnyH_ready (rs := [8]) (by kernel_rfl) (by simp) ?_
      refine AllReadyH.cons (o := { dst := none, op := Op.store 59 (Operand.tmp 4) (Operand.tmp 69), type := 0, pos := "lay.go:57", after := #[{ on := 0, ground := Ground.data }, { on := 6, ground := Ground.chain }, { on := 0, ground := Ground.phase }, { on := 1, ground := Ground.textOnly Departure.lateStores }, { on := 2, ground := Ground.textOnly Departure.lateStores }, { on := 3, ground := Ground.textOnly Departure.lateStores }, { on := 4, ground := Ground.textOnly Departure.lateStoresUnsure }, { on := 5, ground := Ground.textOnly Departure.lateStores }, { on := 6, ground := Ground.textOnly Departure.lateStoresUnsure }, { on := 7, ground := Ground.textOnly Departure.lateStores }], guard := none }) rfl (fun K hK => ?_) AllReadyH.nil
      have f0 := HB47.out.frozen 0
      have f1 := HB47.out.frozen 1
      have f2 := HB47.out.frozen 2
      have p0 := HB47.out.cell 0
      have p1 := HB47.out.cell 1
      have p2 := HB47.out.cell 2
      simp at p0 p1 p2
      go_simp
      clear f0 f1 f2 p0 p1 p2
      have hHeld' := (show Dv.Blk ((((w7.setCell ⟨w.heap.size, 0, none⟩ (.int .i64 (EP : Int))).setCell ⟨w.heap.size, 1, none⟩ (.int .i64 (n6 : Int))).setCell ⟨w.heap.size, 2, none⟩ (.int .i64 (PG : Int)))) (w.heap.size + 1) 59 #[.int .i64 (EP : Int), .int .i64 (n6 : Int), .int .i64 (PG : Int)] from ((HB67.out.far (by simp) _).far (by simp) _).far (by simp) _)
      refine hK.out _ _ ?_ (fun _ => ?_)
      ·exact hHeld'
      clear hK K hHeld
      have hHeld := hHeld'
      clear hHeld'
      try simp only [Act.put, List.setIfInBounds_toArray, List.set_cons_zero, List.set_cons_succ]
      refine wpAnyH_take (i := 9) (oi := { dst := some 5, op := Op.assign (Operand.tmp 76), type := 4, pos := "lay.go:57", after := #[{ on := 7, ground := Ground.data }, { on := 8, ground := Ground.chain }, { on := 0, ground := Ground.phase }, { on := 1, ground := Ground.phase }, { on := 2, ground := Ground.phase }, { on := 3, ground := Ground.phase }, { on := 4, ground := Ground.phase }, { on := 5, ground := Ground.phase }, { on := 6, ground := Ground.phase }, { on := 7, ground := Ground.phase }, { on := 8, ground := Ground.phase }], guard := none }) (v := ?_) rfl (by kernel_rfl) (by kernel_rfl) (by kernel_rfl) (fun _ _ _ h => h) (Or.inl ⟨by rfl, ?_⟩) (by assumption) ?_
      rotate_left
      ·intro X hSw; go_simp; try (with_reducible rfl)
      try simp only [Act.put, List.setIfInBounds_toArray, List.set_cons_zero, List.set_cons_succ]
      refine wpAnyH_done (by kernel_rfl) ?_ _
      obtain ⟨W3, hW3⟩ : ∃ W3, W3 = (((w7.setCell ⟨w.heap.size, 0, none⟩ (.int .i64 (EP : Int))).setCell ⟨w.heap.size, 1, none⟩ (.int .i64 (n6 : Int))).setCell ⟨w.heap.size, 2, none⟩ (.int .i64 (PG : Int))) := ⟨_, rfl⟩
      rw [← hW3]
      have hb4 : Dv.Blk W3 w.heap.size 59 #[.int .i64 (EP : Int), .int .i64 (n6 : Int), .int .i64 (PG : Int)] := by rw [hW3]; exact ((HB47.out.set_ 0 _).set_ 1 _).set_ 2 _
      have hbel : Below w.heap.size w W3 := by rw [hW3]; exact ((((HBEL.out.trans (HB7.out.mono HBEL.out.size)).setCell (Nat.le_refl _) _).setCell (Nat.le_refl _) _).setCell (Nat.le_refl _) _)
      have HR4 := Lib.hid hb4
      have HBE3 := Lib.hid hbel
      clear hb4 hbel hW3 hHeld
      go_wp2
      refine bodyPost_ret (leaveRH rfl rfl HR4.out) rfl ?_
      exact ⟨by rw [HOK.out, if_pos (by omega)]; rfl, HBE3.out⟩
     ·go_wp2
      refine wp_region_held_drew (S := fun X => Dv.Blk X (w.heap.size + 1) 59 #[.int .i64 (EP : Int), .int .i64 (n6 : Int), .int .i64 (PG : Int)]) (by kernel_rfl) HB6.out (fun hHeld => ?_)
      refine wpAnyH_take (i := 0) (oi := { dst := some 69, op := Op.load 59 (Operand.tmp 6), type := 59, pos := "lay.go:57", after := #[], guard := none }) (v := ?_) rfl (by kernel_rfl) (by kernel_rfl) (by kernel_rfl) (fun _ _ _ h => h) (Or.inl ⟨by rfl, ?_⟩) (by assumption) ?_
      rotate_left
      ·intro X hSw; have z0 := hSw.cell 0; have z1 := hSw.cell 1; have z2 := hSw.cell 2; simp at z0 z1 z2; go_simp; try (with_reducible rfl)
      try simp only [Act.put, List.setIfInBounds_toArray, List.set_cons_zero, List.set_cons_succ]
      refine wpAnyH_take (i := 1) (oi := { dst := some 70, op := Op.move (Operand.tmp 7), type := 4, pos := "lay.go:57", after := #[], guard := none }) (v := ?_) rfl (by kernel_rfl) (by kernel_rfl) (by kernel_rfl) (fun _ _ _ h => h) (Or.inl ⟨by rfl, ?_⟩) (by assumption) ?_
      rotate_left
      ·intro X hSw; go_simp; try (with_reducible rfl)
      try simp only [Act.put, List.setIfInBounds_toArray, List.set_cons_zero, List.set_cons_succ]
      refine wpAnyH_take (i := 2) (oi := { dst := some 71, op := Op.move (Operand.tmp 70), type := 4, pos := "lay.go:57", after := #[{ on := 1, ground := Ground.data }], guard := none }) (v := ?_) rfl (by kernel_rfl) (by kernel_rfl) (by kernel_rfl) (fun _ _ _ h => h) (Or.inl ⟨by rfl, ?_⟩) (by assumption) ?_
      rotate_left
      ·intro X hSw; go_simp; try (with_reducible rfl)
      try simp only [Act.put, List.setIfInBounds_toArray, List.set_cons_zero, List.set_cons_succ]
      refine wpAnyH_take (i := 3) (oi := { dst := some 72, op := Op.load 59 (Operand.tmp 6), type := 59, pos := "lay.go:57", after := #[{ on := 2, ground := Ground.guard }], guard := some (2, true) }) (v := undef) rfl (by kernel_rfl) (by kernel_rfl) (by kernel_rfl) (fun _ _ _ h => h) (Or.inr ⟨by rfl, rfl⟩) (by assumption) ?_
      try simp only [Act.put, List.setIfInBounds_toArray, List.set_cons_zero, List.set_cons_succ]
      refine wpAnyH_take (i := 4) (oi := { dst := some 73, op := Op.call { callee := Callee.value (Operand.func 44), args := #[Operand.tmp 72], argTypes := #[59] }, type := 22, pos := "lay.go:57", after := #[{ on := 3, ground := Ground.data }, { on := 2, ground := Ground.chain }, { on := 2, ground := Ground.guard }], guard := some (2, true) }) (v := undef) rfl (by kernel_rfl) (by kernel_rfl) (by kernel_rfl) (fun _ _ _ h => h) (Or.inr ⟨by rfl, rfl⟩) (by assumption) ?_
      try simp only [Act.put, List.setIfInBounds_toArray, List.set_cons_zero, List.set_cons_succ]
      refine wpAnyH_take (i := 5) (oi := { dst := some 74, op := Op.move (Operand.tmp 0), type := 22, pos := "lay.go:57", after := #[{ on := 2, ground := Ground.guard }], guard := some (2, true) }) (v := undef) rfl (by kernel_rfl) (by kernel_rfl) (by kernel_rfl) (fun _ _ _ h => h) (Or.inr ⟨by rfl, rfl⟩) (by assumption) ?_
      try simp only [Act.put, List.setIfInBounds_toArray, List.set_cons_zero, List.set_cons_succ]
      refine wpAnyH_take (i := 6) (oi := { dst := some 75, op := Op.call { callee := Callee.value (Operand.func 48), args := #[Operand.tmp 73, Operand.tmp 74], argTypes := #[22, 22] }, type := 4, pos := "lay.go:57", after := #[{ on := 4, ground := Ground.data }, { on := 5, ground := Ground.data }, { on := 4, ground := Ground.chain }, { on := 2, ground := Ground.guard }], guard := some (2, true) }) (v := undef) rfl (by kernel_rfl) (by kernel_rfl) (by kernel_rfl) (fun _ _ _ h => h) (Or.inr ⟨by rfl, rfl⟩) (by assumption) ?_
      try simp only [Act.put, List.setIfInBounds_toArray, List.set_cons_zero, List.set_cons_succ]
      refine wpAnyH_take (i := 7) (oi := { dst := some 76, op := Op.pick (Operand.tmp 71) (Operand.tmp 75) (Operand.const (Value.bool false)), type := 4, pos := "lay.go:57", after := #[{ on := 2, ground := Ground.data }, { on := 6, ground := Ground.data }, { on := 8, ground := Ground.gcOnly Departure.lateStores }], guard := none }) (v := ?_) rfl (by kernel_rfl) (by kernel_rfl) (by kernel_rfl) (fun _ _ _ h => h) (Or.inl ⟨by rfl, ?_⟩) (by assumption) ?_
      rotate_left
      ·intro X hSw; go_simp; try (with_reducible rfl)
      try simp only [Act.put, List.setIfInBounds_toArray, List.set_cons_zero, List.set_cons_succ]
      refine wpAnyH_ready (rs := [8]) (by kernel_rfl) (by simp) ?_
      refine AllReadyH.cons (o := { dst := none, op := Op.store 59 (Operand.tmp 4) (Operand.tmp 69), type := 0, pos := "lay.go:57", after := #[{ on := 0, ground := Ground.data }, { on := 6, ground := Ground.chain }, { on := 0, ground := Ground.phase }, { on := 1, ground := Ground.textOnly Departure.lateStores }, { on := 2, ground := Ground.textOnly Departure.lateStores }, { on := 3, ground := Ground.textOnly Departure.lateStores }, { on := 4, ground := Ground.textOnly Departure.lateStoresUnsure }, { on := 5, ground := Ground.textOnly Departure.lateStores }, { on := 6, ground := Ground.textOnly Departure.lateStoresUnsure }, { on := 7, ground := Ground.textOnly Departure.lateStores }], guard := none }) rfl (fun K hK => ?_) AllReadyH.nil
      have f0 := HB4.out.frozen 0
      have f1 := HB4.out.frozen 1
      have f2 := HB4.out.frozen 2
      have p0 := HB4.out.cell 0
      have p1 := HB4.out.cell 1
      have p2 := HB4.out.cell 2
      simp at p0 p1 p2
      go_simp
      clear f0 f1 f2 p0 p1 p2
      have hHeld' := (show Dv.Blk ((((W2.setCell ⟨w.heap.size, 0, none⟩ (.int .i64 (EP : Int))).setCell ⟨w.heap.size, 1, none⟩ (.int .i64 (n6 : Int))).setCell ⟨w.heap.size, 2, none⟩ (.int .i64 (PG : Int))).drew) (w.heap.size + 1) 59 #[.int .i64 (EP : Int), .int .i64 (n6 : Int), .int .i64 (PG : Int)] from ((HB6.out.far (by simp) _).far (by simp) _).far (by simp) _)
      refine hK.out _ _ ?_ (fun _ => ?_)
      ·exact hHeld'
      clear hK K hHeld
      have hHeld := hHeld'
      clear hHeld'
      try simp only [Act.put, List.setIfInBounds_toArray, List.set_cons_zero, List.set_cons_succ]
      refine wpAnyH_take (i := 9) (oi := { dst := some 5, op := Op.assign (Operand.tmp 76), type := 4, pos := "lay.go:57", after := #[{ on := 7, ground := Ground.data }, { on := 8, ground := Ground.chain }, { on := 0, ground := Ground.phase }, { on := 1, ground := Ground.phase }, { on := 2, ground := Ground.phase }, { on := 3, ground := Ground.phase }, { on := 4, ground := Ground.phase }, { on := 5, ground := Ground.phase }, { on := 6, ground := Ground.phase }, { on := 7, ground := Ground.phase }, { on := 8, ground := Ground.phase }], guard := none }) (v := ?_) rfl (by kernel_rfl) (by kernel_rfl) (by kernel_rfl) (fun _ _ _ h => h) (Or.inl ⟨by rfl, ?_⟩) (by assumption) ?_
      rotate_left
      ·intro X hSw; go_simp; try (with_reducible rfl)
      try simp only [Act.put, List.setIfInBounds_toArray, List.set_cons_zero, List.set_cons_succ]
      refine wpAnyH_done (by kernel_rfl) ?_ _
      obtain ⟨W3, hW3⟩ : ∃ W3, W3 = (((W2.setCell ⟨w.heap.size, 0, none⟩ (.int .i64 (EP : Int))).setCell ⟨w.heap.size, 1, none⟩ (.int .i64 (n6 : Int))).setCell ⟨w.heap.size, 2, none⟩ (.int .i64 (PG : Int))).drew := ⟨_, rfl⟩
      rw [← hW3]
      have hb4 : Dv.Blk W3 w.heap.size 59 #[.int .i64 (EP : Int), .int .i64 (n6 : Int), .int .i64 (PG : Int)] := by rw [hW3]; exact ((HB4.out.set_ 0 _).set_ 1 _).set_ 2 _
      have hbel : Below w.heap.size w W3 := by rw [hW3]; exact (((HBEL.out.setCell (Nat.le_refl _) _).setCell (Nat.le_refl _) _).setCell (Nat.le_refl _) _).drew
      have HR4 := Lib.hid hb4
      have HBE3 := Lib.hid hbel
      clear hb4 hbel hW3 hHeld
      go_wp2
      refine bodyPost_ret (leaveRH rfl rfl HR4.out) rfl ?_
      exact ⟨by rw [HOK.out, if_neg (by omega)]; rfl, HBE3.out⟩
    ·go_wp2
     refine wp_region_held_drew (S := fun X => Dv.Blk X (w.heap.size + 1) 59 #[.int .i64 (EP : Int), .int .i64 (n6 : Int), .int .i64 (PG : Int)]) (by kernel_rfl) HB6.out (fun hHeld => ?_)
     refine wpAnyH_take (i := 0) (oi := { dst := some 69, op := Op.load 59 (Operand.tmp 6), type := 59, pos := "lay.go:57", after := #[], guard := none }) (v := ?_) rfl (by kernel_rfl) (by kernel_rfl) (by kernel_rfl) (fun _ _ _ h => h) (Or.inl ⟨by rfl, ?_⟩) (by assumption) ?_
     rotate_left
     ·intro X hSw; have z0 := hSw.cell 0; have z1 := hSw.cell 1; have z2 := hSw.cell 2; simp at z0 z1 z2; go_simp; try (with_reducible rfl)
     try simp only [Act.put, List.setIfInBounds_toArray, List.set_cons_zero, List.set_cons_succ]
     refine wpAnyH_take (i := 1) (oi := { dst := some 70, op := Op.move (Operand.tmp 7), type := 4, pos := "lay.go:57", after := #[], guard := none }) (v := ?_) rfl (by kernel_rfl) (by kernel_rfl) (by kernel_rfl) (fun _ _ _ h => h) (Or.inl ⟨by rfl, ?_⟩) (by assumption) ?_
     rotate_left
     ·intro X hSw; go_simp; try (with_reducible rfl)
     try simp only [Act.put, List.setIfInBounds_toArray, List.set_cons_zero, List.set_cons_succ]
     refine wpAnyH_take (i := 2) (oi := { dst := some 71, op := Op.move (Operand.tmp 70), type := 4, pos := "lay.go:57", after := #[{ on := 1, ground := Ground.data }], guard := none }) (v := ?_) rfl (by kernel_rfl) (by kernel_rfl) (by kernel_rfl) (fun _ _ _ h => h) (Or.inl ⟨by rfl, ?_⟩) (by assumption) ?_
     rotate_left
     ·intro X hSw; go_simp; try (with_reducible rfl)
     try simp only [Act.put, List.setIfInBounds_toArray, List.set_cons_zero, List.set_cons_succ]
     refine wpAnyH_take (i := 3) (oi := { dst := some 72, op := Op.load 59 (Operand.tmp 6), type := 59, pos := "lay.go:57", after := #[{ on := 2, ground := Ground.guard }], guard := some (2, true) }) (v := undef) rfl (by kernel_rfl) (by kernel_rfl) (by kernel_rfl) (fun _ _ _ h => h) (Or.inr ⟨by rfl, rfl⟩) (by assumption) ?_
     try simp only [Act.put, List.setIfInBounds_toArray, List.set_cons_zero, List.set_cons_succ]
     refine wpAnyH_take (i := 4) (oi := { dst := some 73, op := Op.call { callee := Callee.value (Operand.func 44), args := #[Operand.tmp 72], argTypes := #[59] }, type := 22, pos := "lay.go:57", after := #[{ on := 3, ground := Ground.data }, { on := 2, ground := Ground.chain }, { on := 2, ground := Ground.guard }], guard := some (2, true) }) (v := undef) rfl (by kernel_rfl) (by kernel_rfl) (by kernel_rfl) (fun _ _ _ h => h) (Or.inr ⟨by rfl, rfl⟩) (by assumption) ?_
     try simp only [Act.put, List.setIfInBounds_toArray, List.set_cons_zero, List.set_cons_succ]
     refine wpAnyH_take (i := 5) (oi := { dst := some 74, op := Op.move (Operand.tmp 0), type := 22, pos := "lay.go:57", after := #[{ on := 2, ground := Ground.guard }], guard := some (2, true) }) (v := undef) rfl (by kernel_rfl) (by kernel_rfl) (by kernel_rfl) (fun _ _ _ h => h) (Or.inr ⟨by rfl, rfl⟩) (by assumption) ?_
     try simp only [Act.put, List.setIfInBounds_toArray, List.set_cons_zero, List.set_cons_succ]
     refine wpAnyH_take (i := 6) (oi := { dst := some 75, op := Op.call { callee := Callee.value (Operand.func 48), args := #[Operand.tmp 73, Operand.tmp 74], argTypes := #[22, 22] }, type := 4, pos := "lay.go:57", after := #[{ on := 4, ground := Ground.data }, { on := 5, ground := Ground.data }, { on := 4, ground := Ground.chain }, { on := 2, ground := Ground.guard }], guard := some (2, true) }) (v := undef) rfl (by kernel_rfl) (by kernel_rfl) (by kernel_rfl) (fun _ _ _ h => h) (Or.inr ⟨by rfl, rfl⟩) (by assumption) ?_
     try simp only [Act.put, List.setIfInBounds_toArray, List.set_cons_zero, List.set_cons_succ]
     refine wpAnyH_take (i := 7) (oi := { dst := some 76, op := Op.pick (Operand.tmp 71) (Operand.tmp 75) (Operand.const (Value.bool false)), type := 4, pos := "lay.go:57", after := #[{ on := 2, ground := Ground.data }, { on := 6, ground := Ground.data }, { on := 8, ground := Ground.gcOnly Departure.lateStores }], guard := none }) (v := ?_) rfl (by kernel_rfl) (by kernel_rfl) (by kernel_rfl) (fun _ _ _ h => h) (Or.inl ⟨by rfl, ?_⟩) (by assumption) ?_
     rotate_left
     ·intro X hSw; go_simp; try (with_reducible rfl)
     try simp only [Act.put, List.setIfInBounds_toArray, List.set_cons_zero, List.set_cons_succ]
     refine wpAnyH_ready (rs := [8]) (by kernel_rfl) (by simp) ?_
     refine AllReadyH.cons (o := { dst := none, op := Op.store 59 (Operand.tmp 4) (Operand.tmp 69), type := 0, pos := "lay.go:57", after := #[{ on := 0, ground := Ground.data }, { on := 6, ground := Ground.chain }, { on := 0, ground := Ground.phase }, { on := 1, ground := Ground.textOnly Departure.lateStores }, { on := 2, ground := Ground.textOnly Departure.lateStores }, { on := 3, ground := Ground.textOnly Departure.lateStores }, { on := 4, ground := Ground.textOnly Departure.lateStoresUnsure }, { on := 5, ground := Ground.textOnly Departure.lateStores }, { on := 6, ground := Ground.textOnly Departure.lateStoresUnsure }, { on := 7, ground := Ground.textOnly Departure.lateStores }], guard := none }) rfl (fun K hK => ?_) AllReadyH.nil
     have f0 := HB4.out.frozen 0
     have f1 := HB4.out.frozen 1
     have f2 := HB4.out.frozen 2
     have p0 := HB4.out.cell 0
     have p1 := HB4.out.cell 1
     have p2 := HB4.out.cell 2
     simp at p0 p1 p2
     go_simp
     clear f0 f1 f2 p0 p1 p2
     have hHeld' := (show Dv.Blk ((((W2.setCell ⟨w.heap.size, 0, none⟩ (.int .i64 (EP : Int))).setCell ⟨w.heap.size, 1, none⟩ (.int .i64 (n6 : Int))).setCell ⟨w.heap.size, 2, none⟩ (.int .i64 (PG : Int))).drew) (w.heap.size + 1) 59 #[.int .i64 (EP : Int), .int .i64 (n6 : Int), .int .i64 (PG : Int)] from ((HB6.out.far (by simp) _).far (by simp) _).far (by simp) _)
     refine hK.out _ _ ?_ (fun _ => ?_)
     ·exact hHeld'
     clear hK K hHeld
     have hHeld := hHeld'
     clear hHeld'
     try simp only [Act.put, List.setIfInBounds_toArray, List.set_cons_zero, List.set_cons_succ]
     refine wpAnyH_take (i := 9) (oi := { dst := some 5, op := Op.assign (Operand.tmp 76), type := 4, pos := "lay.go:57", after := #[{ on := 7, ground := Ground.data }, { on := 8, ground := Ground.chain }, { on := 0, ground := Ground.phase }, { on := 1, ground := Ground.phase }, { on := 2, ground := Ground.phase }, { on := 3, ground := Ground.phase }, { on := 4, ground := Ground.phase }, { on := 5, ground := Ground.phase }, { on := 6, ground := Ground.phase }, { on := 7, ground := Ground.phase }, { on := 8, ground := Ground.phase }], guard := none }) (v := ?_) rfl (by kernel_rfl) (by kernel_rfl) (by kernel_rfl) (fun _ _ _ h => h) (Or.inl ⟨by rfl, ?_⟩) (by assumption) ?_
     rotate_left
     ·intro X hSw; go_simp; try (with_reducible rfl)
     try simp only [Act.put, List.setIfInBounds_toArray, List.set_cons_zero, List.set_cons_succ]
     refine wpAnyH_done (by kernel_rfl) ?_ _
     obtain ⟨W3, hW3⟩ : ∃ W3, W3 = (((W2.setCell ⟨w.heap.size, 0, none⟩ (.int .i64 (EP : Int))).setCell ⟨w.heap.size, 1, none⟩ (.int .i64 (n6 : Int))).setCell ⟨w.heap.size, 2, none⟩ (.int .i64 (PG : Int))).drew := ⟨_, rfl⟩
     rw [← hW3]
     have hb4 : Dv.Blk W3 w.heap.size 59 #[.int .i64 (EP : Int), .int .i64 (n6 : Int), .int .i64 (PG : Int)] := by rw [hW3]; exact ((HB4.out.set_ 0 _).set_ 1 _).set_ 2 _
     have hbel : Below w.heap.size w W3 := by rw [hW3]; exact (((HBEL.out.setCell (Nat.le_refl _) _).setCell (Nat.le_refl _) _).setCell (Nat.le_refl _) _).drew
     have HR4 := Lib.hid hb4
     have HBE3 := Lib.hid hbel
     clear hb4 hbel hW3 hHeld
     go_wp2
     refine bodyPost_ret (leaveRH rfl rfl HR4.out) rfl ?_
     exact ⟨by rw [HOK.out, if_neg (by omega)]; rfl, HBE3.out⟩
   ·go_wp2
    refine wp_region_held_drew (S := fun X => Dv.Blk X (w.heap.size + 1) 59 #[.int .i64 (EP : Int), .int .i64 (n6 : Int), .int .i64 (PG : Int)]) (by kernel_rfl) HB6.out (fun hHeld => ?_)
    refine wpAnyH_take (i := 0) (oi := { dst := some 69, op := Op.load 59 (Operand.tmp 6), type := 59, pos := "lay.go:57", after := #[], guard := none }) (v := ?_) rfl (by kernel_rfl) (by kernel_rfl) (by kernel_rfl) (fun _ _ _ h => h) (Or.inl ⟨by rfl, ?_⟩) (by assumption) ?_
    rotate_left
    ·intro X hSw; have z0 := hSw.cell 0; have z1 := hSw.cell 1; have z2 := hSw.cell 2; simp at z0 z1 z2; go_simp; try (with_reducible rfl)
    try simp only [Act.put, List.setIfInBounds_toArray, List.set_cons_zero, List.set_cons_succ]
    refine wpAnyH_take (i := 1) (oi := { dst := some 70, op := Op.move (Operand.tmp 7), type := 4, pos := "lay.go:57", after := #[], guard := none }) (v := ?_) rfl (by kernel_rfl) (by kernel_rfl) (by kernel_rfl) (fun _ _ _ h => h) (Or.inl ⟨by rfl, ?_⟩) (by assumption) ?_
    rotate_left
    ·intro X hSw; go_simp; try (with_reducible rfl)
    try simp only [Act.put, List.setIfInBounds_toArray, List.set_cons_zero, List.set_cons_succ]
    refine wpAnyH_take (i := 2) (oi := { dst := some 71, op := Op.move (Operand.tmp 70), type := 4, pos := "lay.go:57", after := #[{ on := 1, ground := Ground.data }], guard := none }) (v := ?_) rfl (by kernel_rfl) (by kernel_rfl) (by kernel_rfl) (fun _ _ _ h => h) (Or.inl ⟨by rfl, ?_⟩) (by assumption) ?_
    rotate_left
    ·intro X hSw; go_simp; try (with_reducible rfl)
    try simp only [Act.put, List.setIfInBounds_toArray, List.set_cons_zero, List.set_cons_succ]
    refine wpAnyH_take (i := 3) (oi := { dst := some 72, op := Op.load 59 (Operand.tmp 6), type := 59, pos := "lay.go:57", after := #[{ on := 2, ground := Ground.guard }], guard := some (2, true) }) (v := undef) rfl (by kernel_rfl) (by kernel_rfl) (by kernel_rfl) (fun _ _ _ h => h) (Or.inr ⟨by rfl, rfl⟩) (by assumption) ?_
    try simp only [Act.put, List.setIfInBounds_toArray, List.set_cons_zero, List.set_cons_succ]
    refine wpAnyH_take (i := 4) (oi := { dst := some 73, op := Op.call { callee := Callee.value (Operand.func 44), args := #[Operand.tmp 72], argTypes := #[59] }, type := 22, pos := "lay.go:57", after := #[{ on := 3, ground := Ground.data }, { on := 2, ground := Ground.chain }, { on := 2, ground := Ground.guard }], guard := some (2, true) }) (v := undef) rfl (by kernel_rfl) (by kernel_rfl) (by kernel_rfl) (fun _ _ _ h => h) (Or.inr ⟨by rfl, rfl⟩) (by assumption) ?_
    try simp only [Act.put, List.setIfInBounds_toArray, List.set_cons_zero, List.set_cons_succ]
    refine wpAnyH_take (i := 5) (oi := { dst := some 74, op := Op.move (Operand.tmp 0), type := 22, pos := "lay.go:57", after := #[{ on := 2, ground := Ground.guard }], guard := some (2, true) }) (v := undef) rfl (by kernel_rfl) (by kernel_rfl) (by kernel_rfl) (fun _ _ _ h => h) (Or.inr ⟨by rfl, rfl⟩) (by assumption) ?_
    try simp only [Act.put, List.setIfInBounds_toArray, List.set_cons_zero, List.set_cons_succ]
    refine wpAnyH_take (i := 6) (oi := { dst := some 75, op := Op.call { callee := Callee.value (Operand.func 48), args := #[Operand.tmp 73, Operand.tmp 74], argTypes := #[22, 22] }, type := 4, pos := "lay.go:57", after := #[{ on := 4, ground := Ground.data }, { on := 5, ground := Ground.data }, { on := 4, ground := Ground.chain }, { on := 2, ground := Ground.guard }], guard := some (2, true) }) (v := undef) rfl (by kernel_rfl) (by kernel_rfl) (by kernel_rfl) (fun _ _ _ h => h) (Or.inr ⟨by rfl, rfl⟩) (by assumption) ?_
    try simp only [Act.put, List.setIfInBounds_toArray, List.set_cons_zero, List.set_cons_succ]
    refine wpAnyH_take (i := 7) (oi := { dst := some 76, op := Op.pick (Operand.tmp 71) (Operand.tmp 75) (Operand.const (Value.bool false)), type := 4, pos := "lay.go:57", after := #[{ on := 2, ground := Ground.data }, { on := 6, ground := Ground.data }, { on := 8, ground := Ground.gcOnly Departure.lateStores }], guard := none }) (v := ?_) rfl (by kernel_rfl) (by kernel_rfl) (by kernel_rfl) (fun _ _ _ h => h) (Or.inl ⟨by rfl, ?_⟩) (by assumption) ?_
    rotate_left
    ·intro X hSw; go_simp; try (with_reducible rfl)
    try simp only [Act.put, List.setIfInBounds_toArray, List.set_cons_zero, List.set_cons_succ]
    refine wpAnyH_ready (rs := [8]) (by kernel_rfl) (by simp) ?_
    refine AllReadyH.cons (o := { dst := none, op := Op.store 59 (Operand.tmp 4) (Operand.tmp 69), type := 0, pos := "lay.go:57", after := #[{ on := 0, ground := Ground.data }, { on := 6, ground := Ground.chain }, { on := 0, ground := Ground.phase }, { on := 1, ground := Ground.textOnly Departure.lateStores }, { on := 2, ground := Ground.textOnly Departure.lateStores }, { on := 3, ground := Ground.textOnly Departure.lateStores }, { on := 4, ground := Ground.textOnly Departure.lateStoresUnsure }, { on := 5, ground := Ground.textOnly Departure.lateStores }, { on := 6, ground := Ground.textOnly Departure.lateStoresUnsure }, { on := 7, ground := Ground.textOnly Departure.lateStores }], guard := none }) rfl (fun K hK => ?_) AllReadyH.nil
    have f0 := HB4.out.frozen 0
    have f1 := HB4.out.frozen 1
    have f2 := HB4.out.frozen 2
    have p0 := HB4.out.cell 0
    have p1 := HB4.out.cell 1
    have p2 := HB4.out.cell 2
    simp at p0 p1 p2
    go_simp
    clear f0 f1 f2 p0 p1 p2
    have hHeld' := (show Dv.Blk ((((W2.setCell ⟨w.heap.size, 0, none⟩ (.int .i64 (EP : Int))).setCell ⟨w.heap.size, 1, none⟩ (.int .i64 (n6 : Int))).setCell ⟨w.heap.size, 2, none⟩ (.int .i64 (PG : Int))).drew) (w.heap.size + 1) 59 #[.int .i64 (EP : Int), .int .i64 (n6 : Int), .int .i64 (PG : Int)] from ((HB6.out.far (by simp) _).far (by simp) _).far (by simp) _)
    refine hK.out _ _ ?_ (fun _ => ?_)
    ·exact hHeld'
    clear hK K hHeld
    have hHeld := hHeld'
    clear hHeld'
    try simp only [Act.put, List.setIfInBounds_toArray, List.set_cons_zero, List.set_cons_succ]
    refine wpAnyH_take (i := 9) (oi := { dst := some 5, op := Op.assign (Operand.tmp 76), type := 4, pos := "lay.go:57", after := #[{ on := 7, ground := Ground.data }, { on := 8, ground := Ground.chain }, { on := 0, ground := Ground.phase }, { on := 1, ground := Ground.phase }, { on := 2, ground := Ground.phase }, { on := 3, ground := Ground.phase }, { on := 4, ground := Ground.phase }, { on := 5, ground := Ground.phase }, { on := 6, ground := Ground.phase }, { on := 7, ground := Ground.phase }, { on := 8, ground := Ground.phase }], guard := none }) (v := ?_) rfl (by kernel_rfl) (by kernel_rfl) (by kernel_rfl) (fun _ _ _ h => h) (Or.inl ⟨by rfl, ?_⟩) (by assumption) ?_
    rotate_left
    ·intro X hSw; go_simp; try (with_reducible rfl)
    try simp only [Act.put, List.setIfInBounds_toArray, List.set_cons_zero, List.set_cons_succ]
    refine wpAnyH_done (by kernel_rfl) ?_ _
    obtain ⟨W3, hW3⟩ : ∃ W3, W3 = (((W2.setCell ⟨w.heap.size, 0, none⟩ (.int .i64 (EP : Int))).setCell ⟨w.heap.size, 1, none⟩ (.int .i64 (n6 : Int))).setCell ⟨w.heap.size, 2, none⟩ (.int .i64 (PG : Int))).drew := ⟨_, rfl⟩
    rw [← hW3]
    have hb4 : Dv.Blk W3 w.heap.size 59 #[.int .i64 (EP : Int), .int .i64 (n6 : Int), .int .i64 (PG : Int)] := by rw [hW3]; exact ((HB4.out.set_ 0 _).set_ 1 _).set_ 2 _
    have hbel : Below w.heap.size w W3 := by rw [hW3]; exact (((HBEL.out.setCell (Nat.le_refl _) _).setCell (Nat.le_refl _) _).setCell (Nat.le_refl _) _).drew
    have HR4 := Lib.hid hb4
    have HBE3 := Lib.hid hbel
    clear hb4 hbel hW3 hHeld
    go_wp2
    refine bodyPost_ret (leaveRH rfl rfl HR4.out) rfl ?_
    exact ⟨by rw [HOK.out, if_neg (by omega)]; rfl, HBE3.out⟩
  ·go_wp2
   refine wp_region_held_drew (S := fun X => Dv.Blk X (w.heap.size + 1) 59 #[.int .i64 (EP : Int), .int .i64 (n6 : Int), .int .i64 (PG : Int)]) (by kernel_rfl) HB6.out (fun hHeld => ?_)
   refine wpAnyH_take (i := 0) (oi := { dst := some 69, op := Op.load 59 (Operand.tmp 6), type := 59, pos := "lay.go:57", after := #[], guard := none }) (v := ?_) rfl (by kernel_rfl) (by kernel_rfl) (by kernel_rfl) (fun _ _ _ h => h) (Or.inl ⟨by rfl, ?_⟩) (by assumption) ?_
   rotate_left
   ·intro X hSw; have z0 := hSw.cell 0; have z1 := hSw.cell 1; have z2 := hSw.cell 2; simp at z0 z1 z2; go_simp; try (with_reducible rfl)
   try simp only [Act.put, List.setIfInBounds_toArray, List.set_cons_zero, List.set_cons_succ]
   refine wpAnyH_take (i := 1) (oi := { dst := some 70, op := Op.move (Operand.tmp 7), type := 4, pos := "lay.go:57", after := #[], guard := none }) (v := ?_) rfl (by kernel_rfl) (by kernel_rfl) (by kernel_rfl) (fun _ _ _ h => h) (Or.inl ⟨by rfl, ?_⟩) (by assumption) ?_
   rotate_left
   ·intro X hSw; go_simp; try (with_reducible rfl)
   try simp only [Act.put, List.setIfInBounds_toArray, List.set_cons_zero, List.set_cons_succ]
   refine wpAnyH_take (i := 2) (oi := { dst := some 71, op := Op.move (Operand.tmp 70), type := 4, pos := "lay.go:57", after := #[{ on := 1, ground := Ground.data }], guard := none }) (v := ?_) rfl (by kernel_rfl) (by kernel_rfl) (by kernel_rfl) (fun _ _ _ h => h) (Or.inl ⟨by rfl, ?_⟩) (by assumption) ?_
   rotate_left
   ·intro X hSw; go_simp; try (with_reducible rfl)
   try simp only [Act.put, List.setIfInBounds_toArray, List.set_cons_zero, List.set_cons_succ]
   refine wpAnyH_take (i := 3) (oi := { dst := some 72, op := Op.load 59 (Operand.tmp 6), type := 59, pos := "lay.go:57", after := #[{ on := 2, ground := Ground.guard }], guard := some (2, true) }) (v := undef) rfl (by kernel_rfl) (by kernel_rfl) (by kernel_rfl) (fun _ _ _ h => h) (Or.inr ⟨by rfl, rfl⟩) (by assumption) ?_
   try simp only [Act.put, List.setIfInBounds_toArray, List.set_cons_zero, List.set_cons_succ]
   refine wpAnyH_take (i := 4) (oi := { dst := some 73, op := Op.call { callee := Callee.value (Operand.func 44), args := #[Operand.tmp 72], argTypes := #[59] }, type := 22, pos := "lay.go:57", after := #[{ on := 3, ground := Ground.data }, { on := 2, ground := Ground.chain }, { on := 2, ground := Ground.guard }], guard := some (2, true) }) (v := undef) rfl (by kernel_rfl) (by kernel_rfl) (by kernel_rfl) (fun _ _ _ h => h) (Or.inr ⟨by rfl, rfl⟩) (by assumption) ?_
   try simp only [Act.put, List.setIfInBounds_toArray, List.set_cons_zero, List.set_cons_succ]
   refine wpAnyH_take (i := 5) (oi := { dst := some 74, op := Op.move (Operand.tmp 0), type := 22, pos := "lay.go:57", after := #[{ on := 2, ground := Ground.guard }], guard := some (2, true) }) (v := undef) rfl (by kernel_rfl) (by kernel_rfl) (by kernel_rfl) (fun _ _ _ h => h) (Or.inr ⟨by rfl, rfl⟩) (by assumption) ?_
   try simp only [Act.put, List.setIfInBounds_toArray, List.set_cons_zero, List.set_cons_succ]
   refine wpAnyH_take (i := 6) (oi := { dst := some 75, op := Op.call { callee := Callee.value (Operand.func 48), args := #[Operand.tmp 73, Operand.tmp 74], argTypes := #[22, 22] }, type := 4, pos := "lay.go:57", after := #[{ on := 4, ground := Ground.data }, { on := 5, ground := Ground.data }, { on := 4, ground := Ground.chain }, { on := 2, ground := Ground.guard }], guard := some (2, true) }) (v := undef) rfl (by kernel_rfl) (by kernel_rfl) (by kernel_rfl) (fun _ _ _ h => h) (Or.inr ⟨by rfl, rfl⟩) (by assumption) ?_
   try simp only [Act.put, List.setIfInBounds_toArray, List.set_cons_zero, List.set_cons_succ]
   refine wpAnyH_take (i := 7) (oi := { dst := some 76, op := Op.pick (Operand.tmp 71) (Operand.tmp 75) (Operand.const (Value.bool false)), type := 4, pos := "lay.go:57", after := #[{ on := 2, ground := Ground.data }, { on := 6, ground := Ground.data }, { on := 8, ground := Ground.gcOnly Departure.lateStores }], guard := none }) (v := ?_) rfl (by kernel_rfl) (by kernel_rfl) (by kernel_rfl) (fun _ _ _ h => h) (Or.inl ⟨by rfl, ?_⟩) (by assumption) ?_
   rotate_left
   ·intro X hSw; go_simp; try (with_reducible rfl)
   try simp only [Act.put, List.setIfInBounds_toArray, List.set_cons_zero, List.set_cons_succ]
   refine wpAnyH_ready (rs := [8]) (by kernel_rfl) (by simp) ?_
   refine AllReadyH.cons (o := { dst := none, op := Op.store 59 (Operand.tmp 4) (Operand.tmp 69), type := 0, pos := "lay.go:57", after := #[{ on := 0, ground := Ground.data }, { on := 6, ground := Ground.chain }, { on := 0, ground := Ground.phase }, { on := 1, ground := Ground.textOnly Departure.lateStores }, { on := 2, ground := Ground.textOnly Departure.lateStores }, { on := 3, ground := Ground.textOnly Departure.lateStores }, { on := 4, ground := Ground.textOnly Departure.lateStoresUnsure }, { on := 5, ground := Ground.textOnly Departure.lateStores }, { on := 6, ground := Ground.textOnly Departure.lateStoresUnsure }, { on := 7, ground := Ground.textOnly Departure.lateStores }], guard := none }) rfl (fun K hK => ?_) AllReadyH.nil
   have f0 := HB4.out.frozen 0
   have f1 := HB4.out.frozen 1
   have f2 := HB4.out.frozen 2
   have p0 := HB4.out.cell 0
   have p1 := HB4.out.cell 1
   have p2 := HB4.out.cell 2
   simp at p0 p1 p2
   go_simp
   clear f0 f1 f2 p0 p1 p2
   have hHeld' := (show Dv.Blk ((((W2.setCell ⟨w.heap.size, 0, none⟩ (.int .i64 (EP : Int))).setCell ⟨w.heap.size, 1, none⟩ (.int .i64 (n6 : Int))).setCell ⟨w.heap.size, 2, none⟩ (.int .i64 (PG : Int))).drew) (w.heap.size + 1) 59 #[.int .i64 (EP : Int), .int .i64 (n6 : Int), .int .i64 (PG : Int)] from ((HB6.out.far (by simp) _).far (by simp) _).far (by simp) _)
   refine hK.out _ _ ?_ (fun _ => ?_)
   ·exact hHeld'
   clear hK K hHeld
   have hHeld := hHeld'
   clear hHeld'
   try simp only [Act.put, List.setIfInBounds_toArray, List.set_cons_zero, List.set_cons_succ]
   refine wpAnyH_take (i := 9) (oi := { dst := some 5, op := Op.assign (Operand.tmp 76), type := 4, pos := "lay.go:57", after := #[{ on := 7, ground := Ground.data }, { on := 8, ground := Ground.chain }, { on := 0, ground := Ground.phase }, { on := 1, ground := Ground.phase }, { on := 2, ground := Ground.phase }, { on := 3, ground := Ground.phase }, { on := 4, ground := Ground.phase }, { on := 5, ground := Ground.phase }, { on := 6, ground := Ground.phase }, { on := 7, ground := Ground.phase }, { on := 8, ground := Ground.phase }], guard := none }) (v := ?_) rfl (by kernel_rfl) (by kernel_rfl) (by kernel_rfl) (fun _ _ _ h => h) (Or.inl ⟨by rfl, ?_⟩) (by assumption) ?_
   rotate_left
   ·intro X hSw; go_simp; try (with_reducible rfl)
   try simp only [Act.put, List.setIfInBounds_toArray, List.set_cons_zero, List.set_cons_succ]
   refine wpAnyH_done (by kernel_rfl) ?_ _
   obtain ⟨W3, hW3⟩ : ∃ W3, W3 = (((W2.setCell ⟨w.heap.size, 0, none⟩ (.int .i64 (EP : Int))).setCell ⟨w.heap.size, 1, none⟩ (.int .i64 (n6 : Int))).setCell ⟨w.heap.size, 2, none⟩ (.int .i64 (PG : Int))).drew := ⟨_, rfl⟩
   rw [← hW3]
   have hb4 : Dv.Blk W3 w.heap.size 59 #[.int .i64 (EP : Int), .int .i64 (n6 : Int), .int .i64 (PG : Int)] := by rw [hW3]; exact ((HB4.out.set_ 0 _).set_ 1 _).set_ 2 _
   have hbel : Below w.heap.size w W3 := by rw [hW3]; exact (((HBEL.out.setCell (Nat.le_refl _) _).setCell (Nat.le_refl _) _).setCell (Nat.le_refl _) _).drew
   have HR4 := Lib.hid hb4
   have HBE3 := Lib.hid hbel
   clear hb4 hbel hW3 hHeld
   go_wp2
   refine bodyPost_ret (leaveRH rfl rfl HR4.out) rfl ?_
   exact ⟨by rw [HOK.out, if_neg (by omega)]; rfl, HBE3.out⟩
 ·go_wp2
  refine wp_region_held_drew (S := fun X => Dv.Blk X (w.heap.size + 1) 59 #[.int .i64 (EP : Int), .int .i64 (n6 : Int), .int .i64 (PG : Int)]) (by kernel_rfl) HB6.out (fun hHeld => ?_)
  refine wpAnyH_take (i := 0) (oi := { dst := some 69, op := Op.load 59 (Operand.tmp 6), type := 59, pos := "lay.go:57", after := #[], guard := none }) (v := ?_) rfl (by kernel_rfl) (by kernel_rfl) (by kernel_rfl) (fun _ _ _ h => h) (Or.inl ⟨by rfl, ?_⟩) (by assumption) ?_
  rotate_left
  ·intro X hSw; have z0 := hSw.cell 0; have z1 := hSw.cell 1; have z2 := hSw.cell 2; simp at z0 z1 z2; go_simp; try (with_reducible rfl)
  try simp only [Act.put, List.setIfInBounds_toArray, List.set_cons_zero, List.set_cons_succ]
  refine wpAnyH_take (i := 1) (oi := { dst := some 70, op := Op.move (Operand.tmp 7), type := 4, pos := "lay.go:57", after := #[], guard := none }) (v := ?_) rfl (by kernel_rfl) (by kernel_rfl) (by kernel_rfl) (fun _ _ _ h => h) (Or.inl ⟨by rfl, ?_⟩) (by assumption) ?_
  rotate_left
  ·intro X hSw; go_simp; try (with_reducible rfl)
  try simp only [Act.put, List.setIfInBounds_toArray, List.set_cons_zero, List.set_cons_succ]
  refine wpAnyH_take (i := 2) (oi := { dst := some 71, op := Op.move (Operand.tmp 70), type := 4, pos := "lay.go:57", after := #[{ on := 1, ground := Ground.data }], guard := none }) (v := ?_) rfl (by kernel_rfl) (by kernel_rfl) (by kernel_rfl) (fun _ _ _ h => h) (Or.inl ⟨by rfl, ?_⟩) (by assumption) ?_
  rotate_left
  ·intro X hSw; go_simp; try (with_reducible rfl)
  try simp only [Act.put, List.setIfInBounds_toArray, List.set_cons_zero, List.set_cons_succ]
  refine wpAnyH_take (i := 3) (oi := { dst := some 72, op := Op.load 59 (Operand.tmp 6), type := 59, pos := "lay.go:57", after := #[{ on := 2, ground := Ground.guard }], guard := some (2, true) }) (v := undef) rfl (by kernel_rfl) (by kernel_rfl) (by kernel_rfl) (fun _ _ _ h => h) (Or.inr ⟨by rfl, rfl⟩) (by assumption) ?_
  try simp only [Act.put, List.setIfInBounds_toArray, List.set_cons_zero, List.set_cons_succ]
  refine wpAnyH_take (i := 4) (oi := { dst := some 73, op := Op.call { callee := Callee.value (Operand.func 44), args := #[Operand.tmp 72], argTypes := #[59] }, type := 22, pos := "lay.go:57", after := #[{ on := 3, ground := Ground.data }, { on := 2, ground := Ground.chain }, { on := 2, ground := Ground.guard }], guard := some (2, true) }) (v := undef) rfl (by kernel_rfl) (by kernel_rfl) (by kernel_rfl) (fun _ _ _ h => h) (Or.inr ⟨by rfl, rfl⟩) (by assumption) ?_
  try simp only [Act.put, List.setIfInBounds_toArray, List.set_cons_zero, List.set_cons_succ]
  refine wpAnyH_take (i := 5) (oi := { dst := some 74, op := Op.move (Operand.tmp 0), type := 22, pos := "lay.go:57", after := #[{ on := 2, ground := Ground.guard }], guard := some (2, true) }) (v := undef) rfl (by kernel_rfl) (by kernel_rfl) (by kernel_rfl) (fun _ _ _ h => h) (Or.inr ⟨by rfl, rfl⟩) (by assumption) ?_
  try simp only [Act.put, List.setIfInBounds_toArray, List.set_cons_zero, List.set_cons_succ]
  refine wpAnyH_take (i := 6) (oi := { dst := some 75, op := Op.call { callee := Callee.value (Operand.func 48), args := #[Operand.tmp 73, Operand.tmp 74], argTypes := #[22, 22] }, type := 4, pos := "lay.go:57", after := #[{ on := 4, ground := Ground.data }, { on := 5, ground := Ground.data }, { on := 4, ground := Ground.chain }, { on := 2, ground := Ground.guard }], guard := some (2, true) }) (v := undef) rfl (by kernel_rfl) (by kernel_rfl) (by kernel_rfl) (fun _ _ _ h => h) (Or.inr ⟨by rfl, rfl⟩) (by assumption) ?_
  try simp only [Act.put, List.setIfInBounds_toArray, List.set_cons_zero, List.set_cons_succ]
  refine wpAnyH_take (i := 7) (oi := { dst := some 76, op := Op.pick (Operand.tmp 71) (Operand.tmp 75) (Operand.const (Value.bool false)), type := 4, pos := "lay.go:57", after := #[{ on := 2, ground := Ground.data }, { on := 6, ground := Ground.data }, { on := 8, ground := Ground.gcOnly Departure.lateStores }], guard := none }) (v := ?_) rfl (by kernel_rfl) (by kernel_rfl) (by kernel_rfl) (fun _ _ _ h => h) (Or.inl ⟨by rfl, ?_⟩) (by assumption) ?_
  rotate_left
  ·intro X hSw; go_simp; try (with_reducible rfl)
  try simp only [Act.put, List.setIfInBounds_toArray, List.set_cons_zero, List.set_cons_succ]
  refine wpAnyH_ready (rs := [8]) (by kernel_rfl) (by simp) ?_
  refine AllReadyH.cons (o := { dst := none, op := Op.store 59 (Operand.tmp 4) (Operand.tmp 69), type := 0, pos := "lay.go:57", after := #[{ on := 0, ground := Ground.data }, { on := 6, ground := Ground.chain }, { on := 0, ground := Ground.phase }, { on := 1, ground := Ground.textOnly Departure.lateStores }, { on := 2, ground := Ground.textOnly Departure.lateStores }, { on := 3, ground := Ground.textOnly Departure.lateStores }, { on := 4, ground := Ground.textOnly Departure.lateStoresUnsure }, { on := 5, ground := Ground.textOnly Departure.lateStores }, { on := 6, ground := Ground.textOnly Departure.lateStoresUnsure }, { on := 7, ground := Ground.textOnly Departure.lateStores }], guard := none }) rfl (fun K hK => ?_) AllReadyH.nil
  have f0 := HB4.out.frozen 0
  have f1 := HB4.out.frozen 1
  have f2 := HB4.out.frozen 2
  have p0 := HB4.out.cell 0
  have p1 := HB4.out.cell 1
  have p2 := HB4.out.cell 2
  simp at p0 p1 p2
  go_simp
  clear f0 f1 f2 p0 p1 p2
  have hHeld' := (show Dv.Blk ((((W2.setCell ⟨w.heap.size, 0, none⟩ (.int .i64 (EP : Int))).setCell ⟨w.heap.size, 1, none⟩ (.int .i64 (n6 : Int))).setCell ⟨w.heap.size, 2, none⟩ (.int .i64 (PG : Int))).drew) (w.heap.size + 1) 59 #[.int .i64 (EP : Int), .int .i64 (n6 : Int), .int .i64 (PG : Int)] from ((HB6.out.far (by simp) _).far (by simp) _).far (by simp) _)
  refine hK.out _ _ ?_ (fun _ => ?_)
  ·exact hHeld'
  clear hK K hHeld
  have hHeld := hHeld'
  clear hHeld'
  try simp only [Act.put, List.setIfInBounds_toArray, List.set_cons_zero, List.set_cons_succ]
  refine wpAnyH_take (i := 9) (oi := { dst := some 5, op := Op.assign (Operand.tmp 76), type := 4, pos := "lay.go:57", after := #[{ on := 7, ground := Ground.data }, { on := 8, ground := Ground.chain }, { on := 0, ground := Ground.phase }, { on := 1, ground := Ground.phase }, { on := 2, ground := Ground.phase }, { on := 3, ground := Ground.phase }, { on := 4, ground := Ground.phase }, { on := 5, ground := Ground.phase }, { on := 6, ground := Ground.phase }, { on := 7, ground := Ground.phase }, { on := 8, ground := Ground.phase }], guard := none }) (v := ?_) rfl (by kernel_rfl) (by kernel_rfl) (by kernel_rfl) (fun _ _ _ h => h) (Or.inl ⟨by rfl, ?_⟩) (by assumption) ?_
  rotate_left
  ·intro X hSw; go_simp; try (with_reducible rfl)
  try simp only [Act.put, List.setIfInBounds_toArray, List.set_cons_zero, List.set_cons_succ]
  refine wpAnyH_done (by kernel_rfl) ?_ _
  obtain ⟨W3, hW3⟩ : ∃ W3, W3 = (((W2.setCell ⟨w.heap.size, 0, none⟩ (.int .i64 (EP : Int))).setCell ⟨w.heap.size, 1, none⟩ (.int .i64 (n6 : Int))).setCell ⟨w.heap.size, 2, none⟩ (.int .i64 (PG : Int))).drew := ⟨_, rfl⟩
  rw [← hW3]
  have hb4 : Dv.Blk W3 w.heap.size 59 #[.int .i64 (EP : Int), .int .i64 (n6 : Int), .int .i64 (PG : Int)] := by rw [hW3]; exact ((HB4.out.set_ 0 _).set_ 1 _).set_ 2 _
  have hbel : Below w.heap.size w W3 := by rw [hW3]; exact (((HBEL.out.setCell (Nat.le_refl _) _).setCell (Nat.le_refl _) _).setCell (Nat.le_refl _) _).drew
  have HR4 := Lib.hid hb4
  have HBE3 := Lib.hid hbel
  clear hb4 hbel hW3 hHeld
  go_wp2
  refine bodyPost_ret (leaveRH rfl rfl HR4.out) rfl ?_
  exact ⟨by rw [HOK.out, if_neg (by omega)]; rfl, HBE3.out⟩
end Go.Proofs.Ytmbkaedhllfoeaa
