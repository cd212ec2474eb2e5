/-
  The contracts of strings.Cut and what it calls, at a separator of one byte (layer topic).
-/
import Derived.Lib.Bytealg
import Derived.Shelf.RegionOpenPlain
import Derived.Deep.Draws
import Derived.Test.YtodckdkbheapfaaGreatKOB
set_option linter.unusedVariables false
set_option linter.unusedVariables false
namespace Go.Tp
open Go
def cutL (c : UInt8) : List UInt8 → List UInt8 × List UInt8 × Bool
  | [] => ([], [], false)
  | x :: xs => if x = c then ([], xs, true) else (x :: (cutL c xs).1, (cutL c xs).2.1, (cutL c xs).2.2)
theorem idx_cut (c : UInt8) : ∀ l, Lib.indexByte l c = if (cutL c l).2.2 then ((cutL c l).1.length : Int) else -1
  | [] => rfl
  | x :: xs => by
    rw [Lib.indexByte, cutL, idx_cut c xs]
    by_cases h : x = c
    · simp [h]
    · rw [if_neg h, if_neg (by simpa using h)]
      cases hf : (cutL c xs).2.2 with
      | true =>
        simp only [if_true, List.length_cons]
        have h1 : ¬ (((cutL c xs).1.length : Int) == -1) = true := by rw [beq_iff_eq]; omega
        rw [if_neg h1]
        omega
      | false => simp
theorem cut_hit (c : UInt8) : ∀ l, (cutL c l).2.2 = true → l = (cutL c l).1 ++ c :: (cutL c l).2.1
  | [], h => by cases h
  | x :: xs, h => by
    rw [cutL] at h ⊢
    by_cases hx : x = c
    · rw [if_pos hx, hx]; rfl
    · rw [if_neg hx] at h ⊢
      have := cut_hit c xs h
      simp only [List.cons_append]
      rw [← this]
theorem cut_miss (c : UInt8) : ∀ l, (cutL c l).2.2 = false → cutL c l = (l, [], false)
  | [], _ => rfl
  | x :: xs, h => by
    rw [cutL] at h ⊢
    by_cases hx : x = c
    · rw [if_pos hx] at h; cases h
    · rw [if_neg hx] at h ⊢
      rw [cut_miss c xs h]
theorem cut_free (c : UInt8) : ∀ l, ∀ x ∈ (cutL c l).1, x ≠ c
  | [], x, h => by cases h
  | y :: ys, x, h => by
    rw [cutL] at h
    by_cases hy : y = c
    · rw [if_pos hy] at h; cases h
    · rw [if_neg hy] at h
      rcases List.mem_cons.1 h with e | e
      · rw [e]; exact hy
      · exact cut_free c ys x e
end Go.Tp
namespace Go.Proofs.YtodckdkbheapfaaGreat
open Go.RowKit Go.Rst Go.Tp Go.Shelf
set_option maxRecDepth 100000 in
set_option maxHeartbeats 1000000 in
theorem idxB_any (l : List UInt8) (c : UInt8) (w : World) : Calls Tryz.prog 163 #[sv l, .int .u8 c.toNat] w fun e w' => e = .returned (.int .i64 (Lib.indexByte l c)) ∧ w' = w := by
  go_enter Tryz.func163, Tryz.ntmps163
  go_wp2
  rw [run_callFunc_extern Tryz.func170 (by kernel_rfl) (by kernel_rfl) (by kernel_rfl) (e := Extern.BytealgIndexByte.indexByte) (by kernel_rfl), Lib.run_indexByteString]
  simp only [Result.andThen]
  rw [Oper.upon_value]
  go_wp2
  go_ret
  refine ⟨?_, rfl⟩
  simp
set_option maxRecDepth 100000 in
set_option maxHeartbeats 2000000 in
theorem idx_any (l : List UInt8) (c : UInt8) (w : World) : Calls Tryz.prog 152 #[sv l, .string ⟨#[c]⟩] w fun e w' => e = .returned (.int .i64 (Lib.indexByte l c)) ∧ w' = w := by
  have HI := Lib.hid (idxB_any l c w)
  go_enter Tryz.func152, Tryz.ntmps152
  go_wp2_with (go_at_call 163; refine HI.out.mono ?_; rintro e w' ⟨rfl, rfl⟩)
  · have h : ([c] == l) = true := by assumption
    go_ret
    refine ⟨?_, rfl⟩
    rw [← beq_iff_eq.1 h]
    simp [Lib.indexByte]
  · go_ret
    exact ⟨rfl, rfl⟩
set_option maxRecDepth 100000 in
set_option maxHeartbeats 2000000 in
theorem cut1_any (l : List UInt8) (c : UInt8) (hl : l.length ≤ 1000000) (w : World) : Calls Tryz.prog 130 #[sv l, .string ⟨#[c]⟩] w fun e w' => e = .returned (.tuple #[sv (cutL c l).1, sv (cutL c l).2.1, .bool (cutL c l).2.2]) ∧ Below w.heap.size w w' := by
  have hi := idx_any l c w
  rw [idx_cut] at hi
  go_enter Tryz.func130, Tryz.ntmps130
  cases hf : (cutL c l).2.2 with
  | false =>
    rw [hf, if_neg (by simp)] at hi
    have hm := cut_miss c l hf
    rw [hm]
    have HI := Lib.hid hi
    clear hi hm hf
    go_wp2_with (go_at_call 152; refine HI.out.mono ?_; rintro e w' ⟨rfl, rfl⟩)
    go_ret3
    exact ⟨rfl, Below.refl _ _⟩
  | true =>
    rw [hf, if_pos rfl] at hi
    have hh := cut_hit c l hf
    obtain ⟨a, ha⟩ : ∃ a, a = (cutL c l).1 := ⟨_, rfl⟩
    obtain ⟨b, hb⟩ : ∃ b, b = (cutL c l).2.1 := ⟨_, rfl⟩
    rw [← ha] at hi hh ⊢
    rw [← hb] at hh ⊢
    have hle : a.length + 1 + b.length = l.length := by rw [hh]; simp; omega
    have e1 : (⟨l.toArray⟩ : ByteArray).extract 0 a.length = ⟨a.toArray⟩ := by rw [ext_str, hh]; simp
    have e2 : (⟨l.toArray⟩ : ByteArray).extract (a.length + 1) l.length = ⟨b.toArray⟩ := by rw [ext_str, hh, List.length_append, List.length_cons, show a.length + (b.length + 1) - (a.length + 1) = b.length by omega]; simp
    have HI := Lib.hid hi
    have E1 := Lib.hid e1
    have E2 := Lib.hid e2
    clear hi hh hf ha hb e1 e2
    have c0 : IntKind.i64.wrap ((a.length : Int) + 1) = (a.length : Int) + 1 := by rw [IntKind.wrap_i64]; omega
    have hfm : Tryz.prog.follows Departure.mixedOrders = true := by kernel_rfl
    have c1 : (0 : Int) ≤ (a.length : Int) := by omega
    have c2 : (a.length : Int) ≤ (l.length : Int) := by omega
    have c3 : (0 : Int) ≤ (a.length : Int) + 1 := by omega
    have c4 : (a.length : Int) + 1 ≤ (l.length : Int) := by omega
    go_wp2_with (go_at_call 152; refine HI.out.mono ?_; rintro e w' ⟨rfl, rfl⟩)
    go_region_o
    go_wp2
    go_ret3
    refine ⟨?_, (Below.refl _ _).drew⟩
    show Ending.returned (.tuple #[.string ((⟨l.toArray⟩ : ByteArray).extract 0 a.length), .string ((⟨l.toArray⟩ : ByteArray).extract (a.length + 1) l.length), .bool true]) = _
    rw [E1.out, E2.out]
set_option maxRecDepth 100000 in
set_option maxHeartbeats 1000000 in
theorem cut_any (l : List UInt8) (c : UInt8) (hl : l.length ≤ 1000000) (w : World) : Calls Tryz.prog 99 #[sv l, .string ⟨#[c]⟩] w fun e w' => e = .returned (.tuple #[sv (cutL c l).1, sv (cutL c l).2.1, .bool (cutL c l).2.2]) ∧ Below w.heap.size w w' := by
  have HI := Lib.hid (cut1_any l c hl w)
  go_enter Tryz.func99, Tryz.ntmps99
  go_wp2_with (go_at_call 130; refine HI.out.mono ?_; rintro e w' ⟨rfl, hb⟩; have HB := Lib.hid hb; clear hb)
  go_ret3
  exact ⟨rfl, HB.out⟩
end Go.Proofs.YtodckdkbheapfaaGreat
