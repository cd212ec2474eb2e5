/-
  CodeShort returns true, and changes nothing that was there, for every number, text and byte.
-/
import Derived.Test.YtjanggdjbieceaaKnown
import Derived.Test.YtjanggdjbieceaaMath2
namespace Go.Proofs.Ytjanggdjbieceaa
open Go.RowKit Go.Rst

set_option maxRecDepth 100000 in
set_option maxHeartbeats 1600000 in
theorem short_walk (n : Int) (s : ByteArray) (m : Int) (hm0 : 0 ≤ m) (hm : m ≤ 255) (w : World) : Calls Try.prog 4 #[.int .i64 n, .string s, .int .u8 m] w fun e w' => e = .returned (.bool true) ∧ Below w.heap.size w w' := by
  by_cases hs : 200 < s.size
  · go_enter Try.func4, Try.ntmps4
    go_wp2_with fail
    refine (known_any _).mono ?_
    rintro x w1 ⟨rfl, hb1⟩
    go_wp2
    go_ret
    exact ⟨rfl, hb1⟩
  · have hcl := clip_le n
    have hp := numL_pos (clip n)
    have h8 := numL_len8 hcl
    have hcut := getNum_cut hcl
    have hlong := getNum_longer hcl
    have hnum := fun W => num_any n W
    obtain ⟨L, hL⟩ : ∃ L, L = numL (clip n) := ⟨_, rfl⟩
    rw [← hL] at hp h8 hcut hlong hnum
    have HCUT := Lib.hid hcut
    have HLONG := Lib.hid hlong
    have HNUM := Lib.hid hnum
    clear hL hcut hlong hnum hcl
    have hneb : ((L.length : Int) == 0) = false := by rw [beq_eq_false_iff_ne]; omega
    have hsl : s.data.toList.length = s.size := by rw [Array.length_toList]; rfl
    have htx := fun W => text_any s (by omega) W
    obtain ⟨T, hT⟩ : ∃ T, T = textL s.data.toList := ⟨_, rfl⟩
    have htc := getText_cut (s := s.data.toList) (by omega)
    have htb := getText_back (L := textL s.data.toList) (q := 0) (s := s.data.toList) (post := []) (by simp) (by omega) m
    have htl : T.length ≤ 1000 ∧ 1 ≤ T.length := by
      have := numL_len8 (n := s.data.toList.length) (by omega)
      have := numL_pos s.data.toList.length
      rw [hT, textL, List.length_append]; omega
    rw [← hT] at htx htc htb
    rw [hsl] at htb
    have HTX := Lib.hid htx
    have HTC := Lib.hid htc
    have HTB := Lib.hid htb
    clear htx htc htb hT hsl
    go_enter Try.func4, Try.ntmps4
    go_wp2_with fail
    refine (HNUM.out _).mono ?_
    rintro x w1 ⟨v1, rfl, hown1, hb1⟩
    obtain ⟨A1, c1, rfl, hc1⟩ := own_shape hown1
    have hr1 := RB.own hown1
    have hrd := RB.head (n := L.length - 1) hr1 (by omega)
    clear hown1
    rw [← List.dropLast_eq_take] at hrd
    have HRD := Lib.hid hrd
    have HR1 := Lib.hid hr1
    clear hrd hr1
    go_wp2_with fail
    refine (getNum_any _ L.dropLast 0 _ HRD.out).mono ?_
    rw [HCUT.out]
    rintro x w1' ⟨rfl, rfl⟩
    go_wp2_with fail
    refine (HTX.out w1).mono ?_
    rintro x w2 ⟨v2, rfl, hown2, hb2⟩
    obtain ⟨A2, c2, rfl, hc2⟩ := own_shape hown2
    have hr2 := RB.own hown2
    have hrd2 := RB.head (n := T.length - 1) hr2 (by omega)
    rw [← List.dropLast_eq_take] at hrd2
    have HRD2 := Lib.hid hrd2
    have HR2 := Lib.hid hr2
    have HB1 := Lib.hid hb1
    have HB2 := Lib.hid hb2
    have hsrc := (HR1.out.below hb2).src (P := Try.prog) Try.underlying22
    clear hrd2 hr2 hown2 hb1 hb2
    go_wp2_with fail
    refine (getText_any _ T.dropLast 0 1000 _ HRD2.out).mono ?_
    rw [HTC.out]
    rintro x w2' ⟨rfl, rfl⟩
    go_wp2_with (at_builtin; refine wpList_own rfl (.tmp 53) (.tmp 54) 22 22 rfl w2.heap.size 5 (.int .u8 0) 1 1 Try.underlying22 info5 rfl rfl (World.ownsRow_nil _ _ _ _) rfl hsrc (Below.refl w2.heap.size w2) (Nat.le_refl _) ?_ ?_ ?_ ?_)
    · unfold maxLen; omega
    · omega
    · exact Nat.le_refl _
    intro v3 w3 hown3 hb3 _
    obtain ⟨g, c3, rfl, hg, hg'⟩ := hown3.form (by omega)
    have hcell := hown3.cellAt (L.length - 1) (by omega)
    have hfr := hown3.frozenAt (L.length - 1)
    rw [bvs_get (by omega)] at hcell
    have hset := (hown3.stored (L.length - 1) (bv (L[L.length - 1] ||| 128))).1
    have hb3' := hb3.setCell (p := ⟨g, L.length - 1, none⟩) hg (bv (L[L.length - 1] ||| 128))
    rw [bvs_setLast (by omega)] at hset
    have hlo : longer L = (L.dropLast ++ [L[L.length - 1] ||| 128]) ++ [0] := by
      unfold longer
      have hne : L ≠ [] := by intro e; subst e; simp at hp
      rw [List.getLastD_eq_getLast?, List.getLast?_eq_some_getLast hne, List.getLast_eq_getElem, List.append_assoc]
      rfl
    have hor := or128_u8 L[L.length - 1]
    unfold bv at hcell hset hb3'
    generalize L[L.length - 1] = d0 at *
    generalize d0 ||| 128 = d at *
    have HLO := Lib.hid hlo
    have HSET := Lib.hid hset
    have HB3 := Lib.hid hb3'
    have hll : (L.dropLast ++ [d]).length = L.length := by rw [List.length_append, List.length_dropLast]; simp; omega
    have HLL := Lib.hid hll
    clear hset hb3 hb3' hlo hsrc hll hown3
    go_wp2_with (at_builtin; refine wpList_own (n := (L.dropLast ++ [d]).length) (xs := bvs (L.dropLast ++ [d])) rfl (.tmp 64) (.tmp 65) 22 22 rfl w2.heap.size 5 (.int .u8 0) 1 1 Try.underlying22 info5 rfl rfl ?_ rfl (src_oneg _ (by simp) Try.underlying22 5 _ rfl) (HB3.out.alloc HB3.out.size _) (Nat.le_refl _) ?_ ?_ ?_ ?_)
    · rw [HLL.out]; exact HSET.out.alloc _
    · rw [HLL.out]; unfold maxLen; omega
    · rw [HLL.out]; omega
    · have := HB3.out.size; simp at this ⊢; omega
    intro v4 w4 hown4 hb4 _
    rw [← HLL.out] at hown4
    have hown5 := own_snoc (l := L.dropLast ++ [d]) (c := 0) hown4
    rw [← HLO.out] at hown5
    have hr4 := RB.own hown5
    have HR4 := Lib.hid hr4
    have HB4 := Lib.hid hb4
    clear hown4 hown5 hr4 hb4 hcell hor
    go_wp2_with fail
    refine (getNum_any _ (longer L) 0 _ HR4.out).mono ?_
    rw [HLONG.out]
    rintro x w4' ⟨rfl, rfl⟩
    go_wp2_with fail
    refine (getText_any _ T 0 m _ (HR2.out.below HB4.out)).mono ?_
    by_cases hms : m < (s.size : Int)
    · have hT := HTB.out
      rw [if_pos hms] at hT
      have hT' : getText T 0 m = ([], 0, 3) := hT
      rw [hT']
      rintro x w4' ⟨rfl, rfl⟩
      clear hT hT'
      go_wp2_with fail
      refine (known_any _).mono ?_
      rintro x w5 ⟨rfl, hb5⟩
      have HB5 := Lib.hid hb5
      clear hb5
      go_wp2
      go_ret
      have h1 := HB1.out
      have h2 := HB2.out
      have h4 := HB4.out
      have s1 := h1.size
      have s2 := h2.size
      have s4 := h4.size
      exact ⟨by first | rfl | simp [hms], ((h1.trans (h2.mono s1)).trans (h4.mono (by omega))).trans (HB5.out.mono (by omega))⟩
    · have hT := HTB.out
      rw [if_neg hms] at hT
      have hT' : getText T 0 m = _ := hT
      rw [hT']
      rintro x w4' ⟨rfl, rfl⟩
      clear hT hT'
      go_wp2_with fail
      refine (known_any _).mono ?_
      rintro x w5 ⟨rfl, hb5⟩
      have HB5 := Lib.hid hb5
      clear hb5
      go_wp2
      go_ret
      have h1 := HB1.out
      have h2 := HB2.out
      have h4 := HB4.out
      have s1 := h1.size
      have s2 := h2.size
      have s4 := h4.size
      exact ⟨by first | rfl | simp [hms], ((h1.trans (h2.mono s1)).trans (h4.mono (by omega))).trans (HB5.out.mono (by omega))⟩
end Go.Proofs.Ytjanggdjbieceaa
