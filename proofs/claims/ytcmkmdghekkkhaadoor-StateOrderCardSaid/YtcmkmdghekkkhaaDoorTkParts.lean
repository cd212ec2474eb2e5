/-
  The contract of the program's Parts at keys (layer state).
-/
import Derived.Test.YtcmkmdghekkkhaaDoorTkKey
set_option linter.unusedVariables false
namespace Go.Proofs.YtcmkmdghekkkhaaDoor
open Go.RowKit Go.Rst Go.Tp Go.Ts Go.Tk
set_option maxRecDepth 100000 in
set_option maxHeartbeats 4000000 in
theorem parts_any (v : Nat) (t : UInt8) (id seq : Nat) (hv : v < 10) (ht1 : 97 ≤ t.toNat) (ht2 : t.toNat ≤ 122) (hi : id ≤ 9999999999) (hs : seq ≤ 9999999999) (w : World) (ht : Pow w) :
    Calls Tryd.prog 23 #[sv (keyL v t id seq)] w fun e w' => e = .returned (.tuple #[.int .i64 v, .int .u8 t.toNat, .int .i64 id, .int .i64 seq, .bool true]) ∧ Below w.heap.size w w' := by
  have HP := Lib.hid ht
  have hl := key_len v t id seq
  have hd0 : (keyL v t id seq) = [UInt8.ofNat (48 + v), t] ++ (pad 10 id ++ pad 10 seq) := rfl
  have hx0 : (⟨(keyL v t id seq).toArray⟩ : ByteArray).extract 0 1 = ⟨(pad 1 v).toArray⟩ := by
    rw [ext_str, hd0]
    show _ = (⟨([] ++ [UInt8.ofNat (48 + v % 10)]).toArray⟩ : ByteArray)
    rw [Nat.mod_eq_of_lt hv]
    rfl
  have hx1 : (⟨(keyL v t id seq).toArray⟩ : ByteArray).extract 2 12 = ⟨(pad 10 id).toArray⟩ := by
    rw [ext_str, hd0, show ([UInt8.ofNat (48 + v), t] ++ (pad 10 id ++ pad 10 seq)).drop 2 = pad 10 id ++ pad 10 seq from rfl, List.take_left' (by rw [pad_len])]
  have hx2 : (⟨(keyL v t id seq).toArray⟩ : ByteArray).extract 12 22 = ⟨(pad 10 seq).toArray⟩ := by
    rw [ext_str, hd0, ← List.append_assoc, List.drop_left' (by simp [pad_len]), List.take_of_length_le (by rw [pad_len]; omega)]
  have hix : ∀ h, (⟨(keyL v t id seq).toArray⟩ : ByteArray)[1]'h = t := fun h => rfl
  have HA0 := Lib.hid (fun W => atoi_any 0 v (by omega) (by simpa using hv) W)
  have HA1 := Lib.hid (fun W => atoi_any 9 id (by omega) (by omega) W)
  have HA2 := Lib.hid (fun W => atoi_any 9 seq (by omega) (by omega) W)
  have HKY := Lib.hid (fun W hW => key_any v t id seq hv hi hs W hW)
  simp only [Nat.zero_add, Nat.reduceAdd] at HA0 HA1 HA2
  obtain ⟨K, hK0⟩ : ∃ K, K = keyL v t id seq := ⟨_, rfl⟩
  rw [← hK0] at hl hx0 hx1 hx2 hix HKY ⊢
  obtain ⟨P0, hP0⟩ : ∃ P, P = pad 1 v := ⟨_, rfl⟩
  obtain ⟨P1, hP1⟩ : ∃ P, P = pad 10 id := ⟨_, rfl⟩
  obtain ⟨P2, hP2⟩ : ∃ P, P = pad 10 seq := ⟨_, rfl⟩
  rw [← hP0] at hx0 HA0
  rw [← hP1] at hx1 HA1
  rw [← hP2] at hx2 HA2
  have q1 : ¬ ((t.toNat : Int) < 97) := by omega
  have q2 : ¬ ((122 : Int) < (t.toNat : Int)) := by omega
  clear hK0 hP0 hP1 hP2 ht hd0 ht1 ht2
  go_enter Tryd.func23, Tryd.ntmps23
  go_wp2_with fail
  try rw [hx0]
  refine (HA0.out _).mono ?_
  rintro e w1 ⟨rfl, hb1⟩
  have HB1 := Lib.hid hb1
  clear hb1
  go_wp2_with fail
  try rw [hx1]
  refine (HA1.out _).mono ?_
  rintro e w2 ⟨rfl, hb2⟩
  have HB2 := Lib.hid (HB1.out.trans (hb2.mono HB1.out.size))
  clear hb2 HB1
  go_wp2_with fail
  try rw [hx2]
  refine (HA2.out _).mono ?_
  rintro e w3 ⟨rfl, hb3⟩
  have HB3 := Lib.hid (HB2.out.trans (hb3.mono HB2.out.size))
  clear hb3 HB2
  go_wp2_with fail
  refine (HKY.out _ (HP.out.below HB3.out)).mono ?_
  rintro e w4 ⟨rfl, hb4⟩
  have HB4 := Lib.hid (HB3.out.trans (hb4.mono HB3.out.size))
  clear hb4 HB3
  go_wp2_with fail
  refine wp_region_held_drew (S := SB [w4]) (by kernel_rfl) (SB.start _) (fun hHeld => ?_)
  refine tkC 0 ?_
  refine tkC 1 ?_
  refine tkC 2 ?_
  refine tkC 3 ?_
  refine tkC 4 ?_
  refine tkC 5 ?_
  refine tkC 6 ?_
  refine tkC 7 ?_
  refine tkC 8 ?_
  refine tkC 9 ?_
  refine wpAnyH_done (by kernel_rfl) ?_ _
  clear hHeld
  go_wp2
  refine bodyPost_ret (v := .tuple #[.int .i64 v, .int .u8 t.toNat, .int .i64 id, .int .i64 seq, .bool true]) (by simp [results, Tryd.results23, go_sem]) rfl ?_
  exact ⟨rfl, HB4.out.drew⟩
end Go.Proofs.YtcmkmdghekkkhaaDoor
