/-
  The contract of the statements' own Name (layer topic): a short text.
-/
import Derived.Test.YthifpfdfepepoaaTpM
import Derived.Test.YthifpfdfepepoaaWords
set_option linter.unusedVariables false
namespace Go.Proofs.Ythifpfdfepepoaa
open Go.RowKit Go.Rst Go.Tp
theorem str_any (s : ByteArray) : Value.string s = sv s.data.toList := by
  unfold sv
  rw [Array.toArray_toList]
set_option maxRecDepth 100000 in
set_option maxHeartbeats 2000000 in
theorem name_any {cv : Value} {l : List UInt8} (wild : Bool) {w : World} (h : RB w cv l) : Calls Try.prog 14 #[cv, .bool wild] w fun e w' => ∃ s : List UInt8, s.length ≤ 100 ∧ e = .returned (sv s) ∧ Below w.heap.size w w' := by
  have HV := Lib.hid h
  obtain ⟨A, c, rfl, _⟩ := id h
  clear h
  go_enter Try.func14, Try.ntmps14
  go_wp2_with fail
  go_loopw [5, 6] (fun s i wr => ∃ (k : Nat) (t : ByteArray), k ≤ l.length ∧ k ≤ 8 ∧ i = .int .i64 k ∧ s = .string t ∧ t.size ≤ 5 * k ∧ Below w.heap.size w wr) (fun _ i _ => l.length - (intOf i).toNat)
  case atStart => exact ⟨0, ⟨#[]⟩, Nat.zero_le _, Nat.zero_le _, rfl, rfl, Nat.le_refl _, Below.refl _ _⟩
  case round =>
    obtain ⟨k, t, hk, hk8, rfl, rfl, ht, hbel⟩ := hrel
    have HBl := Lib.hid hbel
    clear hbel
    by_cases hlt : k < l.length
    · have q1 : (k : Int) < (l.length : Int) := by omega
      by_cases h8 : k < 8
      · have q2 : (k : Int) < 8 := by omega
        obtain ⟨b, off, rfl, hb, hcell⟩ := rb_cell (HV.out.below HBl.out) hlt
        unfold bv at hcell
        have hn : l[k].toNat < 256 := UInt8.toNat_lt _
        generalize l[k].toNat = n at hcell hn
        obtain ⟨x, hx, hxs⟩ : ∃ x : ByteArray, (wr.alloc (Obj.cells #[.string ⟨#[97]⟩, .string ⟨#[98]⟩, .string ⟨#[120, 49]⟩, .string ⟨#[108, 111, 110, 103]⟩] 9)).cell? ⟨wr.heap.size, n / 8 % 4, none⟩ = some (.string x) ∧ x.size ≤ 4 := by
          have e := (show Blk (wr.alloc (Obj.cells #[.string ⟨#[97]⟩, .string ⟨#[98]⟩, .string ⟨#[120, 49]⟩, .string ⟨#[108, 111, 110, 103]⟩] 9)) wr.heap.size 9 #[.string ⟨#[97]⟩, .string ⟨#[98]⟩, .string ⟨#[120, 49]⟩, .string ⟨#[108, 111, 110, 103]⟩] from heap_alloc_new wr _).cell (n / 8 % 4)
          rcases (show n / 8 % 4 = 0 ∨ n / 8 % 4 = 1 ∨ n / 8 % 4 = 2 ∨ n / 8 % 4 = 3 by omega) with hd | hd | hd | hd <;> rw [hd] at e ⊢
          · exact ⟨_, e, by decide⟩
          · exact ⟨_, e, by decide⟩
          · exact ⟨_, e, by decide⟩
          · exact ⟨_, e, by decide⟩
        obtain ⟨y, hy, hys⟩ : ∃ y : ByteArray, ((wr.alloc (Obj.cells #[.string ⟨#[97]⟩, .string ⟨#[98]⟩, .string ⟨#[120, 49]⟩, .string ⟨#[108, 111, 110, 103]⟩] 9)).alloc (Obj.cells #[.string ⟨#[43]⟩, .string ⟨#[35]⟩, .string ⟨#[43]⟩, .string ⟨#[65]⟩, .string ⟨#[97, 43]⟩] 9)).cell? ⟨wr.heap.size + 1, n % 5, none⟩ = some (.string y) ∧ y.size ≤ 4 := by
          have e := (show Blk ((wr.alloc (Obj.cells #[.string ⟨#[97]⟩, .string ⟨#[98]⟩, .string ⟨#[120, 49]⟩, .string ⟨#[108, 111, 110, 103]⟩] 9)).alloc (Obj.cells #[.string ⟨#[43]⟩, .string ⟨#[35]⟩, .string ⟨#[43]⟩, .string ⟨#[65]⟩, .string ⟨#[97, 43]⟩] 9)) (wr.heap.size + 1) 9 #[.string ⟨#[43]⟩, .string ⟨#[35]⟩, .string ⟨#[43]⟩, .string ⟨#[65]⟩, .string ⟨#[97, 43]⟩] from heap_alloc2_new wr _ _).cell (n % 5)
          rcases (show n % 5 = 0 ∨ n % 5 = 1 ∨ n % 5 = 2 ∨ n % 5 = 3 ∨ n % 5 = 4 by omega) with hd | hd | hd | hd | hd <;> rw [hd] at e ⊢
          · exact ⟨_, e, by decide⟩
          · exact ⟨_, e, by decide⟩
          · exact ⟨_, e, by decide⟩
          · exact ⟨_, e, by decide⟩
          · exact ⟨_, e, by decide⟩
        by_cases z1 : 0 < k
        · by_cases z2 : 0 < n % 7
          · have z2' : (0 : Int) < (n : Int) % 7 := by omega
            cases wild with
            | false =>
              go_wp2
              go_roundw
              case rel => exact ⟨k + 1, _, by omega, by omega, by go_num, rfl, by rw [ByteArray.size_append, ByteArray.size_append]; have : (⟨#[47]⟩ : ByteArray).size = 1 := rfl; omega, HBl.out.alloc HBl.out.size _⟩
              case measure => simp [intOf]; omega
            | true =>
              by_cases z3 : 150 < n
              · have z3' : (150 : Int) < (n : Int) := by omega
                go_wp2
                go_roundw
                case rel => exact ⟨k + 1, _, by omega, by omega, by go_num, rfl, by rw [ByteArray.size_append, ByteArray.size_append]; have : (⟨#[47]⟩ : ByteArray).size = 1 := rfl; omega, (HBl.out.alloc HBl.out.size _).alloc (by have := HBl.out.size; simp; omega) _⟩
                case measure => simp [intOf]; omega
              · have z3' : ¬ (150 : Int) < (n : Int) := by omega
                go_wp2
                go_roundw
                case rel => exact ⟨k + 1, _, by omega, by omega, by go_num, rfl, by rw [ByteArray.size_append, ByteArray.size_append]; have : (⟨#[47]⟩ : ByteArray).size = 1 := rfl; omega, HBl.out.alloc HBl.out.size _⟩
                case measure => simp [intOf]; omega
          · have z2' : ¬ (0 : Int) < (n : Int) % 7 := by omega
            cases wild with
            | false =>
              go_wp2
              go_roundw
              case rel => exact ⟨k + 1, _, by omega, by omega, by go_num, rfl, by rw [ByteArray.size_append]; omega, HBl.out.alloc HBl.out.size _⟩
              case measure => simp [intOf]; omega
            | true =>
              by_cases z3 : 150 < n
              · have z3' : (150 : Int) < (n : Int) := by omega
                go_wp2
                go_roundw
                case rel => exact ⟨k + 1, _, by omega, by omega, by go_num, rfl, by rw [ByteArray.size_append]; omega, (HBl.out.alloc HBl.out.size _).alloc (by have := HBl.out.size; simp; omega) _⟩
                case measure => simp [intOf]; omega
              · have z3' : ¬ (150 : Int) < (n : Int) := by omega
                go_wp2
                go_roundw
                case rel => exact ⟨k + 1, _, by omega, by omega, by go_num, rfl, by rw [ByteArray.size_append]; omega, HBl.out.alloc HBl.out.size _⟩
                case measure => simp [intOf]; omega
        · have z1' : ¬ (0 : Int) < (k : Int) := by omega
          cases wild with
          | false =>
            go_wp2
            go_roundw
            case rel => exact ⟨k + 1, _, by omega, by omega, by go_num, rfl, by rw [ByteArray.size_append]; omega, HBl.out.alloc HBl.out.size _⟩
            case measure => simp [intOf]; omega
          | true =>
            by_cases z3 : 150 < n
            · have z3' : (150 : Int) < (n : Int) := by omega
              go_wp2
              go_roundw
              case rel => exact ⟨k + 1, _, by omega, by omega, by go_num, rfl, by rw [ByteArray.size_append]; omega, (HBl.out.alloc HBl.out.size _).alloc (by have := HBl.out.size; simp; omega) _⟩
              case measure => simp [intOf]; omega
            · have z3' : ¬ (150 : Int) < (n : Int) := by omega
              go_wp2
              go_roundw
              case rel => exact ⟨k + 1, _, by omega, by omega, by go_num, rfl, by rw [ByteArray.size_append]; omega, HBl.out.alloc HBl.out.size _⟩
              case measure => simp [intOf]; omega
      · have q2 : ¬ (k : Int) < 8 := by omega
        go_wp2
        go_ret
        exact ⟨t.data.toList, by rw [Array.length_toList]; show t.size ≤ 100; omega, by rw [← str_any]; rfl, HBl.out⟩
    · have q1 : ¬ (k : Int) < (l.length : Int) := by omega
      go_wp2
      go_ret
      exact ⟨t.data.toList, by rw [Array.length_toList]; show t.size ≤ 100; omega, by rw [← str_any]; rfl, HBl.out⟩
end Go.Proofs.Ythifpfdfepepoaa
