/-
  The contract of the reference's Same, on pages that read the same.
-/
import Derived.Test.YtomkbgghljcbfaaGPg
import Derived.Test.YtomkbgghljcbfaaGPure
import Derived.Deep.QuietTactic
import Derived.BigQuiet
namespace Go.Proofs.Ytomkbgghljcbfaa
open Go.RowKit Go.Rst Go.Pg Go.Crc
set_option maxRecDepth 100000 in
set_option maxHeartbeats 1600000 in
/-- Two slices that read as the same pages. -/
theorem refSame_any (va vb : Value) (ps : List (List UInt8)) (w : World) (ha : RP w va ps) (hb : RP w vb ps) :
    Calls Try.prog 26 #[va, vb] w fun e w' => e = .returned (.bool true) ∧ Below w.heap.size w w' := by
  have HA := Lib.hid ha
  have HB := Lib.hid hb
  obtain ⟨A1, c1, rfl, hl1, hc1, _⟩ := ha
  obtain ⟨A2, c2, rfl, hl2, hc2, _⟩ := hb
  unfold maxLen at hc1 hc2
  have hbne : ((ps.length : Int) != (ps.length : Int)) = false := by simp
  go_enter Try.func26, Try.ntmps26
  go_wp2
  go_loopw [5] (fun i wr => ∃ k : Nat, k ≤ ps.length ∧ i = .int .i64 k ∧ ∃ m, wr = w.drewN m) (fun i _ => ps.length - (intOf i).toNat)
  case atStart => exact ⟨0, Nat.zero_le _, rfl, 0, rfl⟩
  case round =>
    obtain ⟨k, hk, rfl, m, rfl⟩ := hrel
    by_cases hlt : k < ps.length
    · obtain ⟨b1, o1, u1, rfl, hb1, hx1, hr1⟩ := rp_at HA.out hlt
      obtain ⟨b2, o2, u2, rfl, hb2, hx2, hr2⟩ := rp_at HB.out hlt
      have hs1 := fun (j : Nat) => str22 (hr1.keep (w' := w.drewN j) (Nat.le_refl _) (fun _ _ _ => rfl))
      have hs2 := fun (j : Nat) => str22 (hr2.keep (w' := w.drewN j) (Nat.le_refl _) (fun _ _ _ => rfl))
      have hx1' := fun j => (show (w.drewN j).cell? ⟨b1, o1 + k, none⟩ = _ from hx1)
      have hx2' := fun j => (show (w.drewN j).cell? ⟨b2, o2 + k, none⟩ = _ from hx2)
      generalize ps[k] = p at *
      have q1 : (0 : Int) ≤ (k : Int) := by omega
      have q2 : (k : Int) < ps.length := by omega
      go_wp2
      go_quiet (fail)
      go_wp2
      go_roundw
      case rel => exact ⟨k + 1, by omega, by go_num, _, rfl⟩
      case measure => simp [intOf]; omega
    · go_wp2
      go_ret
      exact ⟨rfl, rfl, rfl, rfl, Nat.le_refl _, fun _ _ => rfl⟩
end Go.Proofs.Ytomkbgghljcbfaa
