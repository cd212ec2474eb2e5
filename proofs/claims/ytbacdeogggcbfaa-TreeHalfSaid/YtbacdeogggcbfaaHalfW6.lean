/-
  The walk of TreeHalf: it answers true of any choices and number.
-/
import Derived.Test.YtbacdeogggcbfaaKnown6
import Derived.Test.YtbacdeogggcbfaaGLay
import Derived.Test.YtbacdeogggcbfaaOrSet
namespace Go.Pg
open Go.Rst Go.Crc
theorem not_rising {l : List Rw} (h : ¬ Sorted l) : risingL l = false ∧ buildL l = none := by
  have h1 : risingL l = false := by
    cases hh : risingL l
    · rfl
    · exact (h ((sorted_rising l).1 hh)).elim
  exact ⟨h1, by unfold buildL; rw [if_pos (.inl h1)]⟩
theorem swap_not {l : List Rw} (hs : Sorted l) {i : Nat} (hi : i + 1 < l.length) : ¬ Sorted ((l.set i l[i + 1]).set (i + 1) (l[i]'(by omega))) := by
  intro h
  have h1 := h.at (i := i) (j := i + 1) (by omega) (by simpa using hi)
  have h2 := hs.at (i := i) (j := i + 1) (by omega) hi
  rw [List.getElem_set_self, List.getElem_set_ne (by omega), List.getElem_set_self] at h1
  have := bl_trans _ _ _ h1 h2
  rw [bl_irrefl] at this
  cases this
theorem twin_not {l : List Rw} {i : Nat} (hi : i + 1 < l.length) : ¬ Sorted (l.set (i + 1) ((l[i]'(by omega)).1, l[i + 1].2)) := by
  intro h
  have h1 := h.at (i := i) (j := i + 1) (by omega) (by simpa using hi)
  rw [List.getElem_set_self, List.getElem_set_ne (by omega)] at h1
  unfold lt kl at h1
  rw [bl_irrefl] at h1
  cases h1
end Go.Pg
namespace Go.Proofs.Ytbacdeogggcbfaa
open Go.RowKit Go.Rst Go.Pg Go.Crc

set_option maxRecDepth 100000 in
set_option maxHeartbeats 4000000 in
theorem half_walk (vc : Value) (l : List UInt8) (k : Nat) (w : World) (hc : RB w vc l) (hl : l.length ≤ 140737488351232) (hk : k ≤ 255) :
    Calls Try.prog 7 #[vc, .int .u8 k] w fun e w' => e = .returned (.bool true) ∧ Below w.heap.size w w' := by
  have HC := Lib.hid hc
  have hg := risL_good (p := fun r => r.1.size ≤ 30) (l := rowsAt l (nrows l 20)) (fun r hr => by
    unfold rowsAt at hr
    obtain ⟨j, _, rfl⟩ := List.mem_map.1 hr
    show (2 : Nat) ≤ 30
    decide)
  have hlen : (risL (rowsAt l (nrows l 20))).length ≤ 20 := by
    have h1 := hg.2.2
    have h2 : (rowsAt l (nrows l 20)).length ≤ 20 := by unfold rowsAt nrows; simp; omega
    omega
  have hs := hg.2.1
  have K1 := Lib.hid (fun W (h : RB W vc l) => risT_any vc l 20 (by decide) W h hl)
  obtain ⟨A3, c3, rfl, hl3, hc3, _⟩ := hc
  unfold maxLen at hc3
  generalize risL (rowsAt l (nrows l 20)) = rs at *
  clear hg
  have H1 := Lib.hid (K1.out w HC.out)
  go_enter Try.func7, Try.ntmps7
  go_wp2_with fail
  refine H1.out.mono ?_
  rintro e w1 ⟨v1, rfl, ho1, hb1⟩
  have HO1 := Lib.hid ho1
  have HB1 := Lib.hid hb1
  obtain ⟨A1, c1, hv1, hnc, hc163⟩ := rr_shape ho1.rr
  subst hv1
  clear ho1 hb1 H1
  by_cases h2 : rs.length < 2
  · have h2' : (rs.length : Int) < 2 := by omega
    go_wp2_with fail
    refine (known_any _).mono ?_
    rintro e w2 ⟨rfl, hb2⟩
    have HB2 := Lib.hid (HB1.out.trans (hb2.mono HB1.out.size))
    clear hb2
    go_wp2
    go_ret
    exact ⟨rfl, HB2.out⟩
  · obtain ⟨I, hIe, hIn⟩ : ∃ I : Nat, (k : Int) % ((rs.length : Int) - 1) = (I : Int) ∧ I < rs.length - 1 := by
      have e : ((rs.length - 1 : Nat) : Int) = (rs.length : Int) - 1 := by omega
      exact ⟨k % (rs.length - 1), by rw [Int.natCast_emod, e], Nat.mod_lt _ (by omega)⟩
    have hlt1 : I + 1 < rs.length := by omega
    have hlt0 : I < rs.length := by omega
    have h2' : (2 : Int) ≤ (rs.length : Int) := by omega
    have hk0 : (0 : Int) ≤ (k : Int) := by omega
    have hn1 : (0 : Int) ≤ (rs.length : Int) - 1 := by omega
    obtain ⟨g, cap, u0, hsh, hgl, hx0, hx1, hf0⟩ := or_row HO1.out hlt0
    obtain ⟨g', cap', u1, hsh', hgl', hy0, hy1, hf1⟩ := or_row HO1.out hlt1
    rw [hsh] at hsh'
    injection hsh with e1 _ e3
    subst e1
    subst e3
    injection hsh' with e1 _ e3
    injection e1 with e1
    injection e1 with e1 _ _
    subst e1
    subst e3
    obtain ⟨A4, c4, hu0⟩ := hf0.shape
    obtain ⟨A5, c5, hu1⟩ := hf1.shape
    obtain ⟨n4, hn4⟩ : ∃ x, x = rs[I].2.length := ⟨_, rfl⟩
    obtain ⟨n5, hn5⟩ : ∃ x, x = rs[I + 1].2.length := ⟨_, rfl⟩
    rw [← hn4] at hu0
    rw [← hn5] at hu1
    subst hu0
    subst hu1
    obtain ⟨k0, hk0e⟩ : ∃ x, x = rs[I].1 := ⟨_, rfl⟩
    obtain ⟨k1, hk1e⟩ : ∃ x, x = rs[I + 1].1 := ⟨_, rfl⟩
    rw [← hk0e] at hx0
    rw [← hk1e] at hy0
    have HF0 := Lib.hid hf0
    have HF1 := Lib.hid hf1
    have HK0 := Lib.hid hk0e
    have HK1 := Lib.hid hk1e
    have hfr := or_frozen HO1.out
    have q1 : (0 : Int) ≤ (I : Int) := by omega
    have q2 : (I : Int) < (rs.length : Int) := by omega
    have q3 : (I : Int) + 1 < (rs.length : Int) := by omega
    have q4 : (0 : Int) ≤ (I : Int) + 1 := by omega
    have hfr1 := hfr (I * 2)
    have hfr2 := hfr (I * 2 + 1)
    have hfr3 := hfr ((I + 1) * 2)
    have hfr4 := hfr ((I + 1) * 2 + 1)
    have hgne : ¬ g = w1.heap.size := by omega
    clear hf0 hf1 hk0e hk1e hn4 hn5 hfr h2
    have s1 := or_setR HO1.out (by decide) rfl hlt0 (k := k1) HF1.out
    have hf0' := fb_setR HO1.out (by decide) rfl hlt0 (k := k1) (x := .slice A5 n5 c5) HF0.out
    have s2 := or_setR s1 (by decide) (by rw [List.length_set]) (j := I + 1) (by rw [List.length_set]; exact hlt1) (k := k0) hf0'
    have hrk0 : (k0, rs[I].2) = rs[I] := by rw [HK0.out]
    have hrk1 : (k1, rs[I + 1].2) = rs[I + 1] := by rw [HK1.out]
    rw [hrk0, hrk1] at s2
    obtain ⟨hnr, hnb⟩ := not_rising (swap_not hs hlt1)
    have hbg := or_base HO1.out
    obtain ⟨W2, hW2⟩ : ∃ W2, W2 = (((((w1.setCell ⟨g, I * 2, none⟩ (.string k1)).setCell ⟨g, I * 2 + 1, none⟩ (.slice A5 n5 c5)).setCell ⟨g, (I + 1) * 2, none⟩ (.string k0)).setCell ⟨g, (I + 1) * 2 + 1, none⟩ (.slice A4 n4 c4)).alloc (.cells #[.string k0, .slice A4 n4 c4] 25)) := ⟨_, rfl⟩
    have hbW : Below w.heap.size w W2 := by
      rw [hW2]
      exact ((((HB1.out.setCell (p := ⟨g, I * 2, none⟩) hbg _).setCell (p := ⟨g, I * 2 + 1, none⟩) hbg _).setCell (p := ⟨g, (I + 1) * 2, none⟩) hbg _).setCell (p := ⟨g, (I + 1) * 2 + 1, none⟩) hbg _).alloc (by simp; exact HB1.out.size) _
    have hoW : OR 5 25 W2 w.heap.size (.slice (some ⟨g, 0, none⟩) rs.length c1) ((rs.set I rs[I + 1]).set (I + 1) rs[I]) := by
      rw [hW2]
      exact s2.alloc _
    have HB2 := Lib.hid hbW
    have HO2 := Lib.hid hoW
    have K2 := build_any _ _ W2 hoW.rr
    rw [hnb] at K2
    have KB := Lib.hid K2
    have HNR := Lib.hid hnr
    have HW2 := Lib.hid hW2
    generalize hrs' : (rs.set I rs[I + 1]).set (I + 1) rs[I] = rs' at *
    have HRS' := Lib.hid hrs'
    clear s1 s2 hf0' hrk0 hrk1 hbW hoW K2 hnb hnr hW2 hrs'
    go_wp2_with fail
    rw [← HW2.out]
    refine KB.out.mono ?_
    rintro e w3 ⟨p3, rfl, hp3, hb3⟩
    obtain ⟨A6, c6, rfl, _, _⟩ := hp3.shape
    have HB3 := Lib.hid (HB2.out.trans (hb3.mono HB2.out.size))
    have HO3 := Lib.hid (HO2.out.below hb3)
    have K4 := Lib.hid (K1.out w3 (HC.out.below HB3.out))
    clear hp3 hb3 KB HO2 hx0 hx1 hy0 hy1 hfr1 hfr2 hfr3 hfr4
    go_wp2_with fail
    refine K4.out.mono ?_
    rintro e w4 ⟨v4, rfl, ho4, hb4⟩
    have HO4 := Lib.hid ho4
    have HB4 := Lib.hid (HB3.out.trans (hb4.mono HB3.out.size))
    have HL4 := Lib.hid (HO3.out.below hb4)
    obtain ⟨g4, cap4, u40, hsh4, hgl4, hx0, hx1, hf40⟩ := or_row ho4 hlt0
    obtain ⟨g5, cap5, u50, hsh5, hgl5, hy0, hy1, hf50⟩ := or_row ho4 hlt1
    subst hsh4
    injection hsh5 with e1 _ e3
    injection e1 with e1
    injection e1 with e1 _ _
    subst e1
    subst e3
    have hbg4 := or_base ho4
    have hfr6 := or_frozen ho4 ((I + 1) * 2)
    have t1 := or_setK ho4 (by decide) rfl hlt1 rs[I].1
    obtain ⟨hnr4, hnb4⟩ := not_rising (twin_not (l := rs) hlt1)
    rw [← HK0.out] at hx0 t1 hnr4 hnb4
    obtain ⟨W5, hW5⟩ : ∃ W5, W5 = w4.setCell ⟨g4, (I + 1) * 2, none⟩ (.string k0) := ⟨_, rfl⟩
    have hb5 : Below w3.heap.size w3 W5 := by rw [hW5]; exact hb4.setCell (p := ⟨g4, (I + 1) * 2, none⟩) hbg4 _
    rw [← hW5] at t1
    have HO5 := Lib.hid t1
    have HB5 := Lib.hid (HB3.out.trans (hb5.mono HB3.out.size))
    have HL5 := Lib.hid (HO3.out.below hb5)
    have K5 := build_any _ _ W5 t1.rr
    rw [hnb4] at K5
    have KB5 := Lib.hid K5
    have HNR4 := Lib.hid hnr4
    have HW5 := Lib.hid hW5
    have hly : (rs.set (I + 1) (k0, rs[I + 1].2)).length = rs.length := by rw [List.length_set]
    generalize rs.set (I + 1) (k0, rs[I + 1].2) = rs4 at *
    have HLY := Lib.hid hly
    clear K4 ho4 hb4 hx1 hy1 hf40 hf50 t1 hb5 K5 hnr4 hnb4 hW5 HL4 HO4 hly
    go_wp2_with fail
    rw [← HW5.out]
    refine KB5.out.mono ?_
    rintro e w6 ⟨p6, rfl, hp6, hb6⟩
    obtain ⟨A7, c7, rfl, _, _⟩ := hp6.shape
    have HB6 := Lib.hid (HB5.out.trans (hb6.mono HB5.out.size))
    have HL6 := Lib.hid (HL5.out.below hb6)
    have HO6 := Lib.hid (HO5.out.below hb6)
    clear hp6 hb6 KB5 hx0 hfr6
    go_wp2_with fail
    refine (known_any _).mono ?_
    rintro e w7 ⟨rfl, hb7⟩
    have HB7 := Lib.hid (HB6.out.trans (hb7.mono HB6.out.size))
    have HO7 := Lib.hid (HO6.out.below hb7)
    have K8 := rising_any _ _ w7 (HL6.out.below hb7).rr
    rw [HNR.out] at K8
    have KR8 := Lib.hid K8
    clear hb7 K8
    go_wp2_with fail
    refine KR8.out.mono ?_
    rintro e w8 ⟨rfl, hb8⟩
    have HB8 := Lib.hid (HB7.out.trans (hb8.mono HB7.out.size))
    have K9 := rising_any _ _ w8 (HO7.out.below hb8).rr
    rw [HNR4.out] at K9
    have KR9 := Lib.hid K9
    clear hb8 K9
    go_wp2_with fail
    refine KR9.out.mono ?_
    rintro e w9 ⟨rfl, hb9⟩
    have HB9 := Lib.hid (HB8.out.trans (hb9.mono HB8.out.size))
    clear hb9
    go_wp2
    go_ret
    exact ⟨rfl, HB9.out⟩
end Go.Proofs.Ytbacdeogggcbfaa
