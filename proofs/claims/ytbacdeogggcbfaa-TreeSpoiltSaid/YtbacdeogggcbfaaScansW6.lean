/-
  The walk of TreeScans: it answers true of any choices and key.
-/
import Derived.Test.YtbacdeogggcbfaaBackW6
namespace Go.Pg
open Go.Rst Go.Crc
theorem filter_split {key : ByteArray} : ∀ {l : List Rw}, Sorted l → l.filter (fun r => Op.bytesLess r.1.toList key.toList) ++ l.filter (fun r => !(Op.bytesLess r.1.toList key.toList)) = l
  | [], _ => rfl
  | x :: xs, h => by
    obtain ⟨h1, h2⟩ := sorted_cons.1 h
    rw [List.filter_cons, List.filter_cons]
    cases hx : Op.bytesLess x.1.toList key.toList
    · have h3 : ∀ y ∈ xs, Op.bytesLess y.1.toList key.toList = false := by
        intro y hy
        cases hy2 : Op.bytesLess y.1.toList key.toList
        · rfl
        · have := bl_trans _ _ _ (h1 y hy) hy2
          unfold kl at this
          rw [hx] at this
          cases this
      have e1 : xs.filter (fun r => Op.bytesLess r.1.toList key.toList) = [] := by
        rw [List.filter_eq_nil_iff]
        intro y hy
        rw [h3 y hy]
        decide
      have e2 : xs.filter (fun r => !(Op.bytesLess r.1.toList key.toList)) = xs := by
        rw [List.filter_eq_self]
        intro y hy
        rw [h3 y hy]
        rfl
      rw [e1, e2]
      simp
    · simp [filter_split h2]
theorem less_nil (a : List UInt8) : Op.bytesLess a [] = false := by cases a <;> rfl
theorem nil_toList : (⟨#[]⟩ : ByteArray).toList = [] := by decide +kernel
theorem scan_to {ps : List (List UInt8)} {l : List Rw} (h : rowsT ps = (l, 0)) (key : ByteArray) (hk : key.toList ≠ []) : scanL ps ⟨#[]⟩ key = (l.filter (fun r => Op.bytesLess r.1.toList key.toList), 0) := by
  unfold scanL
  rw [h, if_neg (by simp)]
  congr 1
  refine List.filter_congr (fun r _ => ?_)
  unfold inS
  rw [nil_toList, less_nil]
  have : (key.toList == []) = false := by rw [beq_eq_false_iff_ne]; exact hk
  rw [this]
  rfl
theorem scan_from {ps : List (List UInt8)} {l : List Rw} (h : rowsT ps = (l, 0)) (key : ByteArray) : scanL ps key ⟨#[]⟩ = (l.filter (fun r => !(Op.bytesLess r.1.toList key.toList)), 0) := by
  unfold scanL
  rw [h, if_neg (by simp)]
  congr 1
  refine List.filter_congr (fun r _ => ?_)
  unfold inS
  rw [nil_toList]
  simp
theorem scan_err {ps : List (List UInt8)} {l : List Rw} (h : rowsT ps = (l, 0)) (a b : ByteArray) : (scanL ps a b).2 = 0 := by
  unfold scanL
  rw [h, if_neg (by simp)]
theorem scan_less {ps : List (List UInt8)} {l : List Rw} (h : rowsT ps = (l, 0)) (a b : ByteArray) : (scanL ps a b).1.length ≤ l.length := by
  unfold scanL
  rw [h, if_neg (by simp)]
  exact List.length_filter_le _ _
end Go.Pg
namespace Go.Proofs.Ytbacdeogggcbfaa
open Go.RowKit Go.Rst Go.Pg Go.Crc

set_option maxRecDepth 100000 in
set_option maxHeartbeats 4000000 in
theorem scans_walk (vc : Value) (l : List UInt8) (key : ByteArray) (w : World) (hc : RB w vc l) (hl : l.length ≤ 140737488351232) :
    Calls Try.prog 5 #[vc, .string key] w fun e w' => e = .returned (.bool true) ∧ Below w.heap.size w w' := by
  have HC := Lib.hid hc
  obtain ⟨A3, c3, rfl, hl3, hc3, _⟩ := hc
  unfold maxLen at hc3
  by_cases hk : 40 < key.size
  · have hk' : (40 : Int) < (key.size : Int) := by omega
    go_enter Try.func5, Try.ntmps5
    go_wp2_with fail
    refine (known_any _).mono ?_
    rintro e w2 ⟨rfl, hb2⟩
    have HB2 := Lib.hid hb2
    clear hb2
    go_wp2
    go_ret
    exact ⟨rfl, HB2.out⟩
  · have hk' : (key.size : Int) ≤ 40 := by omega
    have K1 := Lib.hid (risT_any _ l 40 (by decide) w HC.out hl)
    obtain ⟨hg, hso, hle⟩ := ris_good l 40
    generalize risL (rowsAt l (nrows l 40)) = rs at *
    obtain ⟨ps, hps, hpl, _⟩ := build_some hso (by omega) hg
    have hrows := rows_tree hps
    have HROWS := Lib.hid hrows
    have HPS := Lib.hid hps
    have HSO := Lib.hid hso
    clear hg hrows hps hso
    go_enter Try.func5, Try.ntmps5
    go_wp2_with fail
    refine K1.out.mono ?_
    rintro e w1 ⟨v1, rfl, ho1, hb1⟩
    have k2 := build_any v1 rs w1 ho1.rr
    rw [HPS.out] at k2
    have K2 := Lib.hid k2
    have HO1 := Lib.hid ho1
    have HB1 := Lib.hid hb1
    obtain ⟨A1, c1, rfl⟩ := or_shape ho1
    clear k2 ho1 hb1 K1
    go_wp2_with fail
    refine K2.out.mono ?_
    rintro e w2 ⟨p2, rfl, hp2, hb2⟩
    have hp2 : OP 5 23 w2 w1.heap.size p2 ps := hp2
    have HB2 := Lib.hid (HB1.out.trans (hb2.mono HB1.out.size))
    have HO2 := Lib.hid (HO1.out.below hb2)
    have HP2 := Lib.hid hp2
    obtain ⟨A2, c2, hpv, _, _⟩ := hp2.shape
    obtain ⟨np, hnp⟩ : ∃ np, np = ps.length := ⟨_, rfl⟩
    rw [← hnp] at hpv
    subst hpv
    have k3 := scan_any _ ps ⟨#[]⟩ key w2 hp2.rp
    have he3 := scan_err HROWS.out ⟨#[]⟩ key
    have hl3' := scan_less HROWS.out ⟨#[]⟩ key
    have k3f := fun (h : key.toList ≠ []) => scan_to HROWS.out key h
    unfold GivesRw at k3
    rw [he3] at k3
    generalize hsa : scanL ps ⟨#[]⟩ key = sa at *
    obtain ⟨ra, ea⟩ := sa
    simp only [] at he3 hl3'
    subst he3
    have K3 := Lib.hid k3
    have KF := Lib.hid k3f
    clear k3 k3f hp2 hb2 K2 HO1 hnp hsa
    go_wp2_with fail
    refine K3.out.mono ?_
    rintro e w3 ⟨v3, rfl, ho3, hb3⟩
    have HB3 := Lib.hid (HB2.out.trans (hb3.mono HB2.out.size))
    have HA3 := Lib.hid (show OR 5 25 w3 w2.heap.size v3 ra from ho3)
    have HP3 := Lib.hid (HP2.out.below hb3)
    have HO3 := Lib.hid (HO2.out.below hb3)
    obtain ⟨A4, c4, rfl⟩ := or_shape (show OR 5 25 w3 w2.heap.size v3 ra from ho3)
    have k4 := scan_any _ ps key ⟨#[]⟩ w3 HP3.out.rp
    rw [scan_from HROWS.out key] at k4
    generalize hrb : rs.filter (fun r => !(Op.bytesLess r.1.toList key.toList)) = rb at *
    have HRB := Lib.hid hrb
    have hlb : rb.length ≤ rs.length := by rw [← hrb]; exact List.length_filter_le _ _
    have K4 := Lib.hid k4
    clear k4 ho3 hb3 K3 HP2 HO2 hrb
    go_wp2_with fail
    refine K4.out.mono ?_
    rintro e w4 ⟨v4, rfl, ho4, hb4⟩
    have HB4 := Lib.hid (HB3.out.trans (hb4.mono HB3.out.size))
    have HA4 := Lib.hid (HA3.out.below hb4)
    have HO4 := Lib.hid (HO3.out.below hb4)
    have HX4 := Lib.hid (show OR 5 25 w4 w3.heap.size v4 rb from ho4)
    obtain ⟨A5, c5, rfl⟩ := or_shape (show OR 5 25 w4 w3.heap.size v4 rb from ho4)
    have hsz2 := HB2.out.size
    have hsz3 := HB3.out.size
    clear ho4 hb4 K4 HA3 HO3
    have hq1 : (ra.length : Int) ≤ (rs.length : Int) := by omega
    have hw1 := HB1.out.size
    cases h2 : (key.toList == []) with
    | true =>
      have HRBS := Lib.hid (show rb = rs by
        rw [← HRB.out, List.filter_eq_self]
        intro r _
        rw [eq_of_beq h2, less_nil]
        rfl)
      have h3 : (key.toList != []) = false := by rw [bne, h2]; rfl
      obtain ⟨us4, hus4, hoo4, hff4⟩ := HX4.out
      have hul4 : us4.length = rb.length := by have h := congrArg List.length hus4; rw [List.length_map] at h; exact h
      have hsrc4 := OR.src (tx := 22) hoo4 hff4 Try.underlying22
      rw [hul4] at hsrc4
      have HSRC4 := Lib.hid hsrc4
      have HUS4 := Lib.hid hus4
      have HUL4 := Lib.hid hul4
      clear hsrc4 hus4 hul4
      have hnil := World.ownsRow_nil w4 w4.heap.size 25 2
      have hb0 := Below.refl w4.heap.size w4
      go_wp2_with (at_builtin; refine wpList_own rfl (.tmp 51) (.tmp 52) 22 22 rfl w4.heap.size 25 (.agg #[.string ⟨#[]⟩, .slice none 0 0]) 2 40 Try.underlying22 info25 rfl rfl hnil rfl HSRC4.out hb0 (Nat.le_refl _) ?_ ?_ ?_ ?_)
      · unfold maxLen; omega
      · omega
      · exact hb0.size
      intro v5 w5 ho5 hb5 hg5
      have hallz : OR 5 25 w5 w.heap.size v5 rb := ⟨us4, HUS4.out, by rw [HUL4.out]; exact own_base ho5 HB4.out.size, fun x hx => ((hff4 x hx).base_ hsz3).below hb5⟩
      rw [HRBS.out] at hallz
      have hbz := hb5
      obtain ⟨Az, cz, hvz⟩ := or_shape hallz
      have HALL := Lib.hid hallz
      have HBW := Lib.hid (HB4.out.trans (hbz.mono HB4.out.size))
      have HLW := Lib.hid (HO4.out.below hbz)
      subst hvz
      clear hallz hbz hb5 hg5 ho5 hoo4 hff4 hnil hb0
      go_wp2_with fail
      refine (known_any _).mono ?_
      rintro e w7 ⟨rfl, hb7⟩
      have HB7 := Lib.hid (HBW.out.trans (hb7.mono HBW.out.size))
      have K8 := Lib.hid (sameRows_any _ _ rs w7 (HALL.out.below hb7).rr (HLW.out.below hb7).rr)
      clear hb7
      go_wp2_with fail
      refine K8.out.mono ?_
      rintro e w8 ⟨rfl, m8, rfl⟩
      have HB8 := Lib.hid (show Below w.heap.size w (w7.drewN m8) from ⟨HB7.out.os, HB7.out.tape, HB7.out.output, HB7.out.size, HB7.out.block⟩)
      go_wp2
      go_ret
      exact ⟨rfl, HB8.out⟩
    | false =>
      have h3 : (key.toList != []) = true := by rw [bne, h2]; rfl
      have HRAB := Lib.hid (show ra ++ rb = rs by
        have h5 := KF.out (by intro e; rw [e] at h2; simp at h2)
        injection h5 with h5 _
        rw [h5, ← HRB.out]
        exact filter_split HSO.out)
      obtain ⟨us3, hus3, hoo3, hff3⟩ := HA4.out
      have hul3 : us3.length = ra.length := by have h := congrArg List.length hus3; rw [List.length_map] at h; exact h
      have hsrc3 := OR.src (tx := 22) hoo3 hff3 Try.underlying22
      rw [hul3] at hsrc3
      have HSRC3 := Lib.hid hsrc3
      have HUS3 := Lib.hid hus3
      have HUL3 := Lib.hid hul3
      clear hsrc3 hus3 hul3
      have hnil := World.ownsRow_nil w4 w4.heap.size 25 2
      have hb0 := Below.refl w4.heap.size w4
      go_wp2_with (at_builtin; refine wpList_own rfl (.tmp 48) (.tmp 49) 22 22 rfl w4.heap.size 25 (.agg #[.string ⟨#[]⟩, .slice none 0 0]) 2 40 Try.underlying22 info25 rfl rfl hnil rfl HSRC3.out hb0 (Nat.le_refl _) ?_ ?_ ?_ ?_)
      · unfold maxLen; omega
      · omega
      · exact hb0.size
      intro v5 w5 ho5 hb5 hg5
      have hor5 : OR 5 25 w5 w.heap.size v5 ra := ⟨us3, HUS3.out, by rw [HUL3.out]; exact own_base ho5 HB4.out.size, fun x hx => ((hff3 x hx).base_ hsz2).below hb5⟩
      have hx5 := HX4.out.below hb5
      obtain ⟨us4, hus4, hoo4, hff4⟩ := hx5
      have hul4 : us4.length = rb.length := by have h := congrArg List.length hus4; rw [List.length_map] at h; exact h
      have hsrc4 := OR.src (tx := 22) hoo4 hff4 Try.underlying22
      rw [hul4] at hsrc4
      have HSRC4 := Lib.hid hsrc4
      have HUS4 := Lib.hid hus4
      have HUL4 := Lib.hid hul4
      clear hsrc4 hus4 hul4
      have HO5 := Lib.hid ho5
      have HB5 := Lib.hid hb5
      have HOR5 := Lib.hid hor5
      obtain ⟨Av, cv, hv5⟩ := or_shape hor5
      subst hv5
      clear hor5 ho5 hb5 hg5 hoo3 hnil hb0
      go_wp2_with (at_builtin; refine wpList_own rfl (.tmp 51) (.tmp 52) 22 22 rfl w4.heap.size 25 (.agg #[.string ⟨#[]⟩, .slice none 0 0]) 2 40 Try.underlying22 info25 rfl rfl HO5.out rfl HSRC4.out HB5.out (Nat.le_refl _) ?_ ?_ ?_ ?_)
      · unfold maxLen; omega
      · omega
      · exact HB5.out.size
      intro v6 w6 ho6 hb6 hg6
      have hallz := OR.join (e := 5) (eR := 25) (us := us3) (us2 := us4) (base := w.heap.size) (by decide) (by rw [HUL3.out]; exact own_base HO5.out HB4.out.size) (fun x hx => ((hff3 x hx).base_ hsz2).below HB5.out) (fun x hx => (hff4 x hx).base_ hsz3) (by rw [HUL3.out, HUL4.out]; exact own_base ho6 HB4.out.size) hg6
      rw [HUS3.out, HUS4.out, HRAB.out] at hallz
      have hbz := hb6
      obtain ⟨Az, cz, hvz⟩ := or_shape hallz
      have HALL := Lib.hid hallz
      have HBW := Lib.hid (HB4.out.trans (hbz.mono HB4.out.size))
      have HLW := Lib.hid (HO4.out.below hbz)
      subst hvz
      have HLEN := Lib.hid (show ra.length + rb.length = rs.length by rw [← HRAB.out, List.length_append])
      clear hallz hbz hb6 hg6 ho6 hoo4 hff4 hff3 HOR5 HO5
      go_wp2_with fail
      refine (known_any _).mono ?_
      rintro e w7 ⟨rfl, hb7⟩
      have HB7 := Lib.hid (HBW.out.trans (hb7.mono HBW.out.size))
      have K8 := Lib.hid (sameRows_any _ _ rs w7 (HALL.out.below hb7).rr (HLW.out.below hb7).rr)
      clear hb7
      go_wp2_with fail
      refine K8.out.mono ?_
      rintro e w8 ⟨rfl, m8, rfl⟩
      have HB8 := Lib.hid (show Below w.heap.size w (w7.drewN m8) from ⟨HB7.out.os, HB7.out.tape, HB7.out.output, HB7.out.size, HB7.out.block⟩)
      go_wp2
      go_ret
      exact ⟨rfl, HB8.out⟩
end Go.Proofs.Ytbacdeogggcbfaa
