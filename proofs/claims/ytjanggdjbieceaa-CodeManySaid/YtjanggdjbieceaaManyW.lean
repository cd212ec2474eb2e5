/-
  CodeMany returns true, and changes nothing that was there, for every three bytes.
-/
import Derived.Test.YtjanggdjbieceaaMany
namespace Go.Proofs.Ytjanggdjbieceaa
open Go.RowKit Go.Rst

theorem rowsB_one (k v : List UInt8) : rowsB [((⟨k.toArray⟩ : ByteArray), v)] = textL k ++ textL v := by simp [rowsB, rowL]

set_option maxRecDepth 100000 in
set_option maxHeartbeats 3200000 in
theorem many_walk (n k v : Int) (hn0 : 0 ≤ n) (hn : n ≤ 255) (hk0 : 0 ≤ k) (hk : k ≤ 255) (hv0 : 0 ≤ v) (hv : v ≤ 255) (w : World) :
    Calls Try.prog 3 #[.int .u8 n, .int .u8 k, .int .u8 v] w fun e w' => e = .returned (.bool true) ∧ Below w.heap.size w w' := by
  obtain ⟨N, hN⟩ : ∃ N : Nat, (N : Int) = 4990 + n % 20 := ⟨(4990 + n % 20).toNat, by omega⟩
  obtain ⟨K, hK⟩ : ∃ K : Nat, (K : Int) = k % 40 := ⟨(k % 40).toNat, by omega⟩
  obtain ⟨V, rfl⟩ := Int.eq_ofNat_of_zero_le hv0
  have hN1 : N ≤ 5009 := by omega
  have hK1 : K ≤ 39 := by omega
  have hcl : clip (4990 + n % 20) = N := by unfold clip; omega
  have hnum := fun W => num_any (4990 + n % 20) W
  rw [hcl] at hnum
  have h8 := numL_len8 (n := N) (by omega)
  have HNUM := Lib.hid hnum
  have HN := Lib.hid hN
  have HK := Lib.hid hK
  clear hnum hcl hN hK
  go_enter Try.func3, Try.ntmps3
  go_wp2_with fail
  refine (HNUM.out _).mono ?_
  rintro x w1 ⟨v1, rfl, hown1, hb1⟩
  go_wp2
  go_loopw [7, 8] (fun b i wr => ∃ j : Nat, j ≤ N ∧ i = .int .i64 j ∧ wr.ownsRow w.heap.size 5 1 b (numL N ++ gones j).length (bvs (numL N ++ gones j)) ∧ Below w.heap.size w wr)
    (fun _ i _ => N - (intOf i).toNat)
  case atStart => exact ⟨0, Nat.zero_le _, rfl, by simpa [gones] using hown1, hb1⟩
  case round =>
    clear hown1 hb1
    obtain ⟨j, hj, rfl, hown, hbel⟩ := hrel
    have hgl := gones_len j
    have HGL := Lib.hid hgl
    clear hgl
    have hsz := hbel.size
    by_cases hlt : j < N
    · have hlt' : (j : Int) < 4990 + n % 20 := by have := HN.out; omega
      have hsrc := (RB.lit wr 5 (0, 0) [0, 1] #[.int .u8 0, .int .u8 1] rfl 2 rfl (by decide)).src (P := Try.prog) (tx := 22) Try.underlying22
      have HS := Lib.hid hsrc
      clear hsrc
      go_wp2_with (at_builtin; refine wpList_own (m := 2) (news := bvs [0, 1]) rfl (.tmp 28) (.tmp 29) 22 22 rfl w.heap.size 5 (.int .u8 0) 1 1 Try.underlying22 info5 rfl rfl (hown.alloc _) rfl HS.out (hbel.alloc hsz _) (Nat.le_refl _) ?_ ?_ ?_ ?_)
      · rw [List.length_append, HGL.out]; unfold maxLen; omega
      · rw [List.length_append, HGL.out]; omega
      · simp; omega
      · intro v' w2 hown' hbel' _
        have hown2 := own_cat (l := numL N ++ gones j) (m := [0, 1]) (by first | exact hown' | (rw [List.length_append]; exact hown'))
        rw [List.append_assoc] at hown2
        have HO2 := Lib.hid hown2
        clear hown hbel hown' hown2
        go_wp2
        go_roundw
        case rel => exact ⟨j + 1, by omega, by go_num, HO2.out, hbel'⟩
        case measure => simp [intOf]; omega
    · obtain rfl : j = N := by omega
      have hge : (4990 : Int) + n % 20 ≤ (j : Int) := by have := HN.out; omega
      have hr := RB.own hown
      have hcall := fun W hW => readChgs_any u7 (numL j ++ gones j) W hW
      have HC := Lib.hid hcall
      have HR := Lib.hid hr
      have herr := readChgs_gones j (by omega)
      generalize readChgs (numL j ++ gones j) = res at *
      obtain ⟨ls, er⟩ := res
      have HERR := Lib.hid herr
      have HB := Lib.hid hbel
      clear hown hr hcall herr hbel
      go_wp2_with fail
      refine (HC.out _ HR.out).mono ?_
      rintro x w2 ⟨vc, rfl, _, hb2⟩
      have HB2 : Hid (Below w.heap.size w w2) := Lib.hid (HB.out.trans (hb2.mono hsz))
      have hsz2 := HB2.out.size
      clear hb2
      go_wp2_with (refine wpList_noughts rfl (.tmp 38) (.tmp 38) 22 rfl 5 Try.underlying22 info5 .i64 .i64 _ _ K (by rfl) (by rfl) HK.out.symm HK.out.symm (by omega) ?_)
      intro w3 hown3 hb3 hlt3
      go_wp2_with (refine wpList_noughts rfl (.tmp 41) (.tmp 41) 22 rfl 5 Try.underlying22 info5 .i64 .i64 _ _ V (by rfl) (by rfl) rfl rfl (by omega) ?_)
      intro w4 hown4 hb4 hlt4
      have hown3' : w3.ownsRow w2.heap.size 5 1 (.slice (some ⟨w2.heap.size, 0, none⟩) K K) (List.replicate K (0 : UInt8)).length (bvs (List.replicate K 0)) := by rw [List.length_replicate]; exact hown3
      have hown4' : w4.ownsRow w3.heap.size 5 1 (.slice (some ⟨w3.heap.size, 0, none⟩) V V) (List.replicate V (0 : UInt8)).length (bvs (List.replicate V 0)) := by rw [List.length_replicate]; exact hown4
      have hs3 := ((RB.own hown3').below hb4).str (P := Try.prog) (src := 22) (dst := 9) Try.underlying22 Try.underlying5 Try.underlying9
      have hb5 : Below w.heap.size w w4 := (HB2.out.trans (hb3.mono hsz2)).trans (hb4.mono (by omega))
      have HB5 := Lib.hid hb5
      have HR4 := Lib.hid (RB.own hown4')
      have hsz4 := hb5.size
      have hrl : (rowsB [((⟨(List.replicate K (0 : UInt8)).toArray⟩ : ByteArray), List.replicate V (0 : UInt8))]).length ≤ 1000000000 := by
        have h1 := textL_len (l := List.replicate K (0 : UInt8)) (by rw [List.length_replicate]; omega)
        have h2 := numL_len8 (n := K) (by omega)
        have h3 := numL_len8 (n := V) (by omega)
        rw [rowsB_one, List.length_append, textL, textL, List.length_append, List.length_append, List.length_replicate, List.length_replicate]
        omega
      have hread := readRows_one (List.replicate K (0 : UInt8)) (List.replicate V (0 : UInt8)) (by rw [List.length_replicate]; omega) (by rw [List.length_replicate]; omega)
      rw [List.length_replicate, List.length_replicate] at hread
      have hrows := fun u W hW => rows_any u _ hrl (by simp) W hW
      generalize (List.replicate K (0 : UInt8)) = KL at *
      generalize (List.replicate V (0 : UInt8)) = VL at *
      have hrr := fun u W hW => readRows_any u (rowsL [((⟨KL.toArray⟩ : ByteArray), VL)]) W hW
      generalize rowsL [((⟨KL.toArray⟩ : ByteArray), VL)] = L at *
      generalize readRows L = res2 at *
      obtain ⟨ls2, er2⟩ := res2
      have HROWS := Lib.hid hrows
      have HRR := Lib.hid hrr
      have HREAD := Lib.hid hread
      have herr2 : er2 = if 30 < K ∨ 150 < V then 3 else 0 := hread
      have HERR2 := Lib.hid herr2
      clear hrows hrr hread herr2 hrl hown3 hown4 hown3' hown4' hb3 hb4 hb5
      go_wp2_with fail
      refine (HROWS.out _ _ (RR.one HR4.out)).mono ?_
      rintro x w6 ⟨v6, rfl, hown6, hb6⟩
      have HR6 := Lib.hid (RB.own hown6)
      have HB6 : Hid (Below w.heap.size w w6) := Lib.hid ((HB5.out.alloc hsz4 _).trans (hb6.mono (by simp; omega)))
      clear hown6 hb6 hs3
      go_wp2_with fail
      refine (HRR.out _ _ HR6.out).mono ?_
      rintro x w7 ⟨v7, rfl, _, hb7⟩
      have HB7 : Hid (Below w.heap.size w w7) := Lib.hid (HB6.out.trans (hb7.mono HB6.out.size))
      clear hb7
      go_wp2_with fail
      refine (known_any _).mono ?_
      rintro x w8 ⟨rfl, hb8⟩
      have HB8 : Hid (Below w.heap.size w w8) := Lib.hid (HB7.out.trans (hb8.mono HB7.out.size))
      clear hb8
      have h1 := HERR.out
      have h2 := HERR2.out
      have hn20 := HN.out
      have hk40 := HK.out
      by_cases c1 : 5000 < j
      · rw [if_pos c1] at h1
        subst h1
        have d1 : (10 : Int) < n % 20 := by omega
        by_cases c2 : 30 < K
        · rw [if_pos (.inl c2)] at h2
          subst h2
          have d2 : (30 : Int) < k % 40 := by omega
          clear hn20 hk40 c1 c2
          go_wp2
          go_ret
          exact ⟨by first | rfl | (simp; omega), HB8.out⟩
        · have d2 : k % 40 ≤ (30 : Int) := by omega
          by_cases c3 : 150 < V
          · rw [if_pos (.inr c3)] at h2
            subst h2
            have d3 : (150 : Int) < (V : Int) := by omega
            clear hn20 hk40 c1 c2 c3
            go_wp2
            go_ret
            exact ⟨by first | rfl | (simp; omega), HB8.out⟩
          · rw [if_neg (by omega)] at h2
            subst h2
            have d3 : (V : Int) ≤ (150 : Int) := by omega
            clear hn20 hk40 c1 c2 c3
            go_wp2
            go_ret
            exact ⟨by first | rfl | (simp; omega), HB8.out⟩
      · rw [if_neg c1] at h1
        subst h1
        have d1 : n % 20 ≤ (10 : Int) := by omega
        by_cases c2 : 30 < K
        · rw [if_pos (.inl c2)] at h2
          subst h2
          have d2 : (30 : Int) < k % 40 := by omega
          clear hn20 hk40 c1 c2
          go_wp2
          go_ret
          exact ⟨by first | rfl | (simp; omega), HB8.out⟩
        · have d2 : k % 40 ≤ (30 : Int) := by omega
          by_cases c3 : 150 < V
          · rw [if_pos (.inr c3)] at h2
            subst h2
            have d3 : (150 : Int) < (V : Int) := by omega
            clear hn20 hk40 c1 c2 c3
            go_wp2
            go_ret
            exact ⟨by first | rfl | (simp; omega), HB8.out⟩
          · rw [if_neg (by omega)] at h2
            subst h2
            have d3 : (V : Int) ≤ (150 : Int) := by omega
            clear hn20 hk40 c1 c2 c3
            go_wp2
            go_ret
            exact ⟨by first | rfl | (simp; omega), HB8.out⟩
end Go.Proofs.Ytjanggdjbieceaa
