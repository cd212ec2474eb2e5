/-
  The contract of the statements' own much: whether rows have more than fifteen hundred places and bytes.
-/
import Derived.Test.YtjanggdjbieceaaOneW
import Derived.BigQuiet
import Derived.Deep.QuietTactic
namespace Go.Proofs.Ytjanggdjbieceaa
open Go.RowKit Go.Rst

def sizes (rs : List (ByteArray × List UInt8)) : Nat := (rs.map fun r => r.1.size + r.2.length).sum
def tot (rs : List (ByteArray × List UInt8)) : Nat := rs.length + sizes rs
theorem sizes_take {rs : List (ByteArray × List UInt8)} {k : Nat} (h : k < rs.length) : sizes (rs.take (k + 1)) = sizes (rs.take k) + (rs[k].1.size + rs[k].2.length) := by
  unfold sizes
  rw [List.take_succ_eq_append_getElem h]
  simp only [List.map_append, List.sum_append, List.map_cons, List.map_nil, List.sum_cons, List.sum_nil, Nat.add_zero]
theorem sizes_le (rs : List (ByteArray × List UInt8)) (k : Nat) : sizes (rs.take k) ≤ sizes rs := by
  conv => rhs; rw [← List.take_append_drop k rs]
  unfold sizes
  rw [List.map_append, List.sum_append]
  omega
def many1500 (rs : List (ByteArray × List UInt8)) : Bool := decide (1500 < tot rs)

set_option maxRecDepth 100000 in
set_option maxHeartbeats 1000000 in
theorem much_any (v : Value) (rs : List (ByteArray × List UInt8)) (ht : tot rs ≤ 4000000) (w : World) (hv : RR w v rs) :
    Calls Try.prog 19 #[v] w fun e w' => e = .returned (.bool (many1500 rs)) ∧ ∃ m, w' = w.drewN m := by
  have HA := Lib.hid hv
  obtain ⟨A1, c1, rfl, hl1, hc1, _⟩ := hv
  unfold maxLen at hc1
  have ht' : rs.length + sizes rs ≤ 4000000 := ht
  have hm : many1500 rs = decide (1500 < rs.length + sizes rs) := rfl
  have HM := Lib.hid hm
  clear ht hm
  go_enter Try.func19, Try.ntmps19
  go_wp2
  go_loopw [3, 4] (fun n i wr => ∃ k : Nat, k ≤ rs.length ∧ i = .int .i64 k ∧ n = .int .i64 ((rs.length + sizes (rs.take k) : Nat) : Int) ∧ ∃ m, wr = w.drewN m) (fun _ i _ => rs.length - (intOf i).toNat)
  case atStart => exact ⟨0, Nat.zero_le _, rfl, rfl, 0, rfl⟩
  case round =>
    obtain ⟨k, hk, rfl, rfl, m, rfl⟩ := hrel
    by_cases hlt : k < rs.length
    · obtain ⟨b1, o1, u1, rfl, hx1, hy1, hr1⟩ := rr_at HA.out hlt
      have hs := sizes_take hlt
      have hle := sizes_le rs (k + 1)
      rw [hs] at hle
      obtain ⟨A2, c2, rfl, _⟩ := hr1
      generalize rs[k] = r at *
      generalize sizes (rs.take k) = S at *
      have HS := Lib.hid hs
      have b1 : (0 : Int) ≤ (k : Int) := by omega
      have b2 : (k : Int) < (rs.length : Int) := by omega
      have w1 : IntKind.i64.wrap ((r.1.size : Int) + (r.2.length : Int)) = (r.1.size : Int) + (r.2.length : Int) := by rw [IntKind.wrap_i64]; omega
      have w2 : IntKind.i64.wrap ((rs.length : Int) + (S : Int) + ((r.1.size : Int) + (r.2.length : Int))) = (rs.length : Int) + (S : Int) + ((r.1.size : Int) + (r.2.length : Int)) := by rw [IntKind.wrap_i64]; omega
      clear hs hle
      go_wp2
      go_quiet (fail)
      clear w1 w2
      go_wp2
      go_roundw
      case rel => exact ⟨k + 1, by omega, by go_num, by rw [HS.out]; go_num, _, rfl⟩
      case measure => simp [intOf]; omega
    · have e : k = rs.length := by omega
      rw [e, List.take_length]
      clear e hlt
      go_wp2
      go_ret
      rw [HM.out]
      refine ⟨?_, m, rfl⟩
      show Ending.returned (Value.bool (decide (1500 < (rs.length : Int) + (sizes rs : Int)))) = _
      have e : decide (1500 < (rs.length : Int) + (sizes rs : Int)) = decide (1500 < rs.length + sizes rs) := by
        rw [decide_eq_decide]; omega
      rw [e]
end Go.Proofs.Ytjanggdjbieceaa
