/-
  The contract of the reference's SameRows, at rows that read alike: it answers true.
-/
import Derived.Test.YtbacdeogggcbfaaGWords
import Derived.Deep.QuietTactic
import Derived.BigQuiet
namespace Go.Proofs.Ytbacdeogggcbfaa
open Go.RowKit Go.Rst

set_option maxRecDepth 100000 in
set_option maxHeartbeats 800000 in
theorem sameRows_any (va vb : Value) (rs : List (ByteArray × List UInt8)) (w : World) (ha : RR w va rs) (hb : RR w vb rs) : Calls Try.prog 16 #[va, vb] w fun e w' => e = .returned (.bool true) ∧ ∃ m, w' = w.drewN m := by
  have HA := Lib.hid ha
  have HB := Lib.hid hb
  obtain ⟨A1, c1, rfl, hl1, hc1, _⟩ := ha
  obtain ⟨A2, c2, rfl, hl2, hc2, _⟩ := hb
  unfold maxLen at hc1 hc2
  have hbne : ((rs.length : Int) != (rs.length : Int)) = false := by simp
  go_enter Try.func16, Try.ntmps16
  go_wp2
  go_loopw [5] (fun i wr => ∃ k : Nat, k ≤ rs.length ∧ i = .int .i64 k ∧ ∃ m, wr = w.drewN m) (fun i _ => rs.length - (intOf i).toNat)
  case atStart => exact ⟨0, Nat.zero_le _, rfl, 0, rfl⟩
  case round =>
    obtain ⟨k, hk, rfl, m, rfl⟩ := hrel
    by_cases hlt : k < rs.length
    · obtain ⟨b1, o1, u1, rfl, hx1, hy1, hr1⟩ := rr_at HA.out hlt
      obtain ⟨b2, o2, u2, rfl, hx2, hy2, hr2⟩ := rr_at HB.out hlt
      have hs1 := fun (W : World) (hW : W.heap = w.heap) => (hr1.keep (w' := W) (by rw [hW]; exact Nat.le_refl _) (fun b o _ => by simp [World.cell?, hW])).str (P := Try.prog) (src := 23) (dst := 9) Try.underlying23 Try.underlying5 Try.underlying9
      have hs2 := fun (W : World) (hW : W.heap = w.heap) => (hr2.keep (w' := W) (by rw [hW]; exact Nat.le_refl _) (fun b o _ => by simp [World.cell?, hW])).str (P := Try.prog) (src := 23) (dst := 9) Try.underlying23 Try.underlying5 Try.underlying9
      have hs1' := fun j => hs1 (w.drewN j) rfl
      have hs2' := fun j => hs2 (w.drewN j) rfl
      generalize rs[k] = r at *
      clear hs1 hs2
      go_wp2
      go_quiet (fail)
      go_wp2
      go_roundw
      case rel => exact ⟨k + 1, by omega, by go_num, _, rfl⟩
      case measure => simp [intOf]; omega
    · go_wp2
      go_ret
      exact ⟨rfl, m, rfl⟩
end Go.Proofs.Ytbacdeogggcbfaa
