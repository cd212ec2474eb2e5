/-
  The contract of the reference's padded: the bytes, the byte 128, noughts, and how many bits there are, in a row of its own; for at most a million bytes.
-/
import Derived.Test.YtbfemhhmijlmlaaDoorRefBlock
namespace Go.Proofs.YtbfemhhmijlmlaaDoor
open Go.RowKit Go.Rst Go.Sha

theorem info5 : (Tryd.prog.info? 5).map (fun i => (i.zero, i.size, i.bytes)) = some (some (.int .u8 0), 1, 1) := by kernel_rfl
/-- How long a slice is. -/
def lenOf : Value → Nat
  | .slice _ n _ => n
  | _ => 0
theorem be64_take (m i : Nat) (h : i < 8) : (be64 m).take (i + 1) = (be64 m).take i ++ [UInt8.ofNat (m / 2 ^ (56 - 8 * i))] := by
  match i, h with
  | 0, _ => rfl
  | 1, _ => rfl
  | 2, _ => rfl
  | 3, _ => rfl
  | 4, _ => rfl
  | 5, _ => rfl
  | 6, _ => rfl
  | 7, _ => simp [be64]
theorem byte_sh (L p : Nat) : 8 * (L : Int) / 2 ^ p % 256 = ((UInt8.ofNat (L * 8 / 2 ^ p)).toNat : Int) := by
  rw [← byte_of, Nat.mul_comm L 8]
  simp
/-- Some bytes, the byte 128, so many noughts. -/
def padz (l : List UInt8) (z : Nat) : List UInt8 := l ++ 128 :: List.replicate z 0
theorem padz_length (l : List UInt8) (z : Nat) : (padz l z).length = l.length + 1 + z := by simp [padz]; omega
theorem padz_succ (l : List UInt8) (z : Nat) : padz l (z + 1) = padz l z ++ [0] := by simp [padz, List.replicate_succ']
theorem padded_padz (l : List UInt8) : padded l = padz l (noughts l.length) ++ be64 (l.length * 8) := by simp [padded, Go.Sha.ending, padz]
theorem own_byte {w : World} {base n : Nat} {v : Value} {l : List UInt8} {c : UInt8} {z : Int} (hz : z = (c.toNat : Int)) (h : w.ownsRow base 5 1 v (n + 1) (bvs l ++ [Value.int .u8 z])) :
    w.ownsRow base 5 1 v (n + 1) (bvs (l ++ [c])) := by
  subst hz
  rw [bvs_append]
  exact h

set_option maxRecDepth 100000 in
set_option maxHeartbeats 1000000 in
theorem refPad_any (v : Value) (l : List UInt8) (w : World) (hv : RB w v l) (hbig : l.length ≤ 1000000) :
    Calls Tryd.prog 16 #[v] w fun e w' => ∃ v', e = .returned v' ∧ w'.ownsRow w.heap.size 5 1 v' (padded l).length (bvs (padded l)) ∧ Below w.heap.size w w' := by
  have HS := Lib.hid (RB.src (P := Tryd.prog) hv Tryd.underlying22)
  obtain ⟨A, c, rfl, h1, h2, _⟩ := hv
  obtain ⟨L, hL⟩ : ∃ L, L = l.length := ⟨_, rfl⟩
  rw [← hL] at h1 hbig HS ⊢
  have HL := Lib.hid hL
  clear hL
  unfold maxLen at h2
  go_enter Tryd.func16, Tryd.ntmps16
  go_wp2_with (at_builtin; refine wpList_own rfl (.tmp 6) (.tmp 7) 22 22 rfl w.heap.size 5 (.int .u8 0) 1 1 Tryd.underlying22 info5 rfl rfl (World.ownsRow_nil _ _ _ _) rfl HS.out (Below.refl w.heap.size w) (Nat.le_refl _) ?_ ?_ ?_ ?_)
  · unfold maxLen; omega
  · omega
  · exact Nat.le_refl _
  intro v3 w3 hown3 hbel3 _
  have hsz := hbel3.size
  go_wp2_with (at_builtin; refine wpList_own rfl (.tmp 9) (.tmp 10) 22 22 rfl w.heap.size 5 (.int .u8 0) 1 1 Tryd.underlying22 info5 rfl rfl (hown3.alloc _) rfl (src_one w3 Tryd.underlying22 5 _ rfl) (hbel3.alloc hbel3.size _) (Nat.le_refl _) ?_ ?_ ?_ ?_)
  · unfold maxLen; omega
  · omega
  · simp; omega
  intro v4 w4 hown4 hbel4 _
  have hp0 : w4.ownsRow w.heap.size 5 1 v4 (L + 1 + 0) (bvs (padz l 0)) := by
    have e : padz l 0 = l ++ [128] := rfl
    rw [e, bvs_append]
    exact hown4
  have HP0 := Lib.hid hp0
  have HB4 := Lib.hid hbel4
  clear hown3 hown4 hbel3 hbel4 hp0 hsz HS
  obtain ⟨N, hN⟩ : ∃ N, N = noughts L := ⟨_, rfl⟩
  have hN1 : (L + 1 + N) % 64 = 56 := by rw [hN]; unfold noughts; omega
  have hN2 : ∀ z, z < N → (L + 1 + z) % 64 ≠ 56 := by intro z hz; rw [hN] at hz; unfold noughts at hz; omega
  have hN3 : N < 64 := by rw [hN]; unfold noughts; omega
  have HN := Lib.hid hN
  have HN1 := Lib.hid hN1
  have HN2 := Lib.hid hN2
  clear hN hN1 hN2
  go_wp2
  go_loopw [3] (fun v3 wr => ∃ z : Nat, z ≤ N ∧ wr.ownsRow w.heap.size 5 1 v3 (L + 1 + z) (bvs (padz l z)) ∧ Below w.heap.size w wr) (fun v3 _ => L + 1 + N - lenOf v3)
  case atStart => exact ⟨0, Nat.zero_le _, HP0.out, HB4.out⟩
  case round =>
    clear HP0 HB4
    obtain ⟨z, hz, hown, hbel⟩ := hrel
    obtain ⟨A3, c3, rfl, hc3⟩ := own_shape hown
    have hsz := hbel.size
    obtain ⟨n, hn⟩ : ∃ n, n = L + 1 + z := ⟨_, rfl⟩
    rw [← hn] at hown hc3 ⊢
    have HO := Lib.hid hown
    have HB := Lib.hid hbel
    by_cases hlt : z < N
    · have h56 := HN2.out z hlt
      have hq : ((n : Int) % 64 == 56) = false := by rw [beq_eq_false_iff_ne]; omega
      have HNn := Lib.hid hn
      clear h56 hown hbel hn
      go_wp2_with (at_builtin; refine wpList_own rfl (.tmp 16) (.tmp 17) 22 22 rfl w.heap.size 5 (.int .u8 0) 1 1 Tryd.underlying22 info5 rfl rfl (HO.out.alloc _) rfl (src_one wr Tryd.underlying22 5 _ rfl) (HB.out.alloc HB.out.size _) (Nat.le_refl _) ?_ ?_ ?_ ?_)
      · have := HNn.out; unfold maxLen; omega
      · have := HNn.out; omega
      · simp; omega
      intro v5 w5 hown5 hbel5 _
      obtain ⟨A5, c5, rfl, _⟩ := own_shape hown5
      have hown5' := own_byte (c := 0) rfl hown5
      rw [← padz_succ] at hown5'
      have HO5 := Lib.hid hown5'
      have HB5 := Lib.hid hbel5
      clear hown5 hown5' hbel5
      go_wp2
      go_roundw
      case rel =>
        refine ⟨z + 1, hlt, ?_, HB5.out⟩
        rw [show L + 1 + (z + 1) = n + 1 from by have := HNn.out; omega]
        exact HO5.out
      case measure => simp [lenOf]; have := HNn.out; omega
    · obtain rfl : z = N := by omega
      have hq : ((n : Int) % 64 == 56) = true := by rw [beq_iff_eq]; have := HN1.out; omega
      have HNn := Lib.hid hn
      obtain ⟨Wo, hWo⟩ : ∃ Wo, Wo = wr := ⟨_, rfl⟩
      subst hWo
      clear hown hbel hn hsz
      go_wp2
      generalize ((n : Int) % 64 != 56) = bq
      clear hq
      go_loopw [3, 5] (fun v3 i wr => ∃ k : Nat, k ≤ 8 ∧ i = .int .i64 k ∧ wr.ownsRow w.heap.size 5 1 v3 (n + k) (bvs (padz l z ++ (be64 (L * 8)).take k)) ∧ Below w.heap.size w wr) (fun _ i _ => 8 - (intOf i).toNat)
      case atStart => exact ⟨0, by omega, rfl, by rw [List.take_zero, List.append_nil]; exact HO.out, HB.out⟩
      case round =>
        obtain ⟨k, hk, rfl, hown, hbel⟩ := hrel
        by_cases hlt2 : k < 8
        · have hsz := hbel.size
          obtain ⟨q, hq2⟩ : ∃ q, q = 56 - 8 * k := ⟨_, rfl⟩
          have htk := be64_take (L * 8) k hlt2
          rw [← hq2] at htk
          have j1 : (56 : Int) - 8 * (k : Int) = (q : Int) := by omega
          have j2 : q ≤ 56 := by omega
          have j3 : (0 : Int) ≤ (q : Int) := by omega
          have j4 : (0 : Int) ≤ 8 * (L : Int) := by omega
          have HTK := Lib.hid htk
          have HO2 := Lib.hid hown
          have HB2 := Lib.hid hbel
          clear htk hown hbel hq2
          go_wp2_with (at_builtin; refine wpList_own rfl (.tmp 26) (.tmp 34) 22 22 rfl w.heap.size 5 (.int .u8 0) 1 1 Tryd.underlying22 info5 rfl rfl (HO2.out.alloc _) rfl (src_one wr Tryd.underlying22 5 _ rfl) (HB2.out.alloc HB2.out.size _) (Nat.le_refl _) ?_ ?_ ?_ ?_)
          · have := HNn.out; unfold maxLen; omega
          · have := HNn.out; omega
          · simp; omega
          intro v5 w5 hown5 hbel5 _
          rw [byte_sh] at hown5
          have hown5' := own_byte rfl hown5
          rw [List.append_assoc, ← HTK.out] at hown5'
          have HO5 := Lib.hid hown5'
          have HB5 := Lib.hid hbel5
          clear hown5 hown5' hbel5
          go_wp2
          go_roundw
          case rel => exact ⟨k + 1, by omega, by go_num, HO5.out, HB5.out⟩
          case measure => simp [intOf]; omega
        · obtain rfl : k = 8 := by omega
          have hpl : padded l = padz l z ++ (be64 (L * 8)).take 8 := by
            rw [padded_padz, ← HL.out, HN.out]
            rfl
          have hlen : n + 8 = (padded l).length := by
            rw [hpl, List.length_append, padz_length, HNn.out, HL.out]
            rfl
          rw [hlen, ← hpl] at hown
          have HO2 := Lib.hid hown
          have HB2 := Lib.hid hbel
          clear hown hbel hpl hlen
          go_wp2
          go_ret
          exact ⟨_, rfl, HO2.out, HB2.out⟩
end Go.Proofs.YtbfemhhmijlmlaaDoor
