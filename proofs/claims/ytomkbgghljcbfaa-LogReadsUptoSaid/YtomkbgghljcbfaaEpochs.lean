/-
  The walk of LogEpochs: it answers true of any choices, epoch and number.
-/
import Derived.Test.YtomkbgghljcbfaaGKnown
import Derived.Test.YtomkbgghljcbfaaChgBack
import Derived.Test.YtomkbgghljcbfaaGNum
namespace Go.Proofs.Ytomkbgghljcbfaa
open Go.RowKit Go.Rst Go.Pg Go.Crc
theorem chgL_short {c : Chg} (h1 : c.1.data.toList.length ≤ 30) (h2 : c.2.1.length ≤ 150) : (chgL c).length ≤ 197 := by
  have a := numL_len8 (n := c.1.data.toList.length) (by omega)
  have b := numL_len8 (n := c.2.1.length) (by omega)
  unfold chgL textL
  split <;> simp only [List.length_append, List.length_cons, List.length_nil] <;> omega
theorem chgsB_short : ∀ cs : List Chg, ShortC cs → (chgsB cs).length ≤ 197 * cs.length
  | [], _ => by simp [chgsB]
  | c :: cs, h => by
    have ih := chgsB_short cs (fun x hx => h x (List.mem_cons_of_mem _ hx))
    obtain ⟨h1, h2, _⟩ := h c (List.mem_cons_self ..)
    have := chgL_short h1 h2
    have e : chgsB (c :: cs) = chgL c ++ chgsB cs := by unfold chgsB; rw [List.flatMap_cons]
    rw [e, List.length_append, List.length_cons]
    omega
theorem short_of (cs : List Chg) (h : ShortC cs) (hn : cs.length ≤ 40) : ofL (chgsL cs) ≤ 200 := by
  have h1 := chgsB_short cs h
  have h2 := numL_len8 (n := cs.length) (by omega)
  unfold ofL chgsL
  rw [List.length_append]
  omega
theorem parts_true {epoch num : Nat} (cs : List Chg) (h : ShortC cs) (hn : cs.length ≤ 40) (he : epoch ≤ 1073741824) (hm : num ≤ 1073741824) : (partsL epoch num cs).2 = true := by
  have := short_of cs h hn
  unfold partsL
  rw [if_neg (by omega), if_neg (by omega)]
theorem parts_64 {epoch num : Int} {cs : List Chg} (h : (partsL epoch num cs).2 = true) {s : List UInt8} (hs : s ∈ (partsL epoch num cs).1) : s.length = 64 := by
  rw [(parts_of h).1] at hs
  exact secL_len hs

set_option maxRecDepth 100000 in
set_option maxHeartbeats 1600000 in
theorem epochs_walk (vc : Value) (l1 : List UInt8) (E k : Nat) (w : World) (hc : RB w vc l1) (hl1 : l1.length ≤ 140737488351232) (hE : E ≤ 65535) (hk : k ≤ 255) :
    Calls Try.prog 9 #[vc, .int .u16 E, .int .u8 k] w fun e w' => e = .returned (.bool true) ∧ Below w.heap.size w w' := by
  have hsh := madeC_short l1 (nrows l1 10)
  have hxl : ((rowsAt l1 (nrows l1 10)).map chgOf).length ≤ 10 := by rw [List.length_map, rowsAt_length]; exact nrows_le l1 10
  have K1 := Lib.hid (changeList_any vc l1 10 (by decide) w hc hl1)
  obtain ⟨Ac, cc, rfl, hlc, hcc, _⟩ := hc
  unfold maxLen at hcc
  generalize (rowsAt l1 (nrows l1 10)).map chgOf = xs at *
  have hbl := chgsB_short xs hsh
  have hback := readChgs_back xs (by omega) hsh
  have htrue := parts_true (epoch := E) (num := k) xs hsh (by omega) (by omega) (by omega)
  have hcnt := parts_count htrue
  have hof := short_of xs hsh (by omega)
  have hpos := chgsL_pieces xs
  rw [← hcnt] at hof hpos
  have h64 := fun s hs => parts_64 (s := s) htrue hs
  have hoth := read_other (e2 := (E : Int) + 1) htrue (.inl (by omega))
  have hvb : ∀ r ∈ xs, r.2.1.length ≤ 1000000000 := fun r hr => by have := (hsh r hr).2.1; omega
  have hone : k = 0 → readS E (partsL E k xs).1 = ([xs], (partsL E k xs).1.length) := fun h => by
    subst h
    exact read_one htrue hback
  have hno : k ≠ 0 → readS E (partsL E k xs).1 = ([], 0) := fun h => read_other htrue (.inr (by omega))
  have K2 := Lib.hid (fun v W (h : RC W v xs) => parts_any E k v xs W h (by omega) (by omega) hvb)
  obtain ⟨PS, hPS⟩ : ∃ PS, PS = partsL (E : Int) (k : Int) xs := ⟨_, rfl⟩
  rw [← hPS] at htrue hcnt hof hpos h64 hoth hone hno K2
  obtain ⟨S, ok⟩ := PS
  simp only at htrue hcnt hof hpos h64 hoth hone hno
  subst htrue
  clear hsh hback hcnt hPS hvb
  obtain ⟨nS, hnS⟩ : ∃ nS, nS = S.length := ⟨_, rfl⟩
  have HNS := Lib.hid hnS
  rw [← hnS] at hof hpos hone
  clear hnS
  have K3 := Lib.hid (fun v W (h : RP W v S) => readP_any E v S W h (by rw [← HNS.out]; omega))
  have K4 := Lib.hid (fun v W (h : RP W v S) => readP_any ((E : Int) + 1) v S W h (by rw [← HNS.out]; omega))
  rw [hoth] at K4
  have H64 := Lib.hid h64
  clear h64 hoth
  have hE1 : (E : Int) ≤ 65535 := by omega
  have hE0 : (0 : Int) ≤ (E : Int) := by omega
  by_cases hk0 : k = 0
  · subst hk0
    have hrd := hone rfl
    clear hone hno
    rw [hrd] at K3
    clear hrd
    go_enter Try.func9, Try.ntmps9
    go_wp2_with fail
    refine K1.out.mono ?_
    rintro e w1 ⟨v1, rfl, ho1, hb1⟩
    have HO1 := Lib.hid ho1
    have HB1 := Lib.hid hb1
    have H2 := Lib.hid (K2.out v1 w1 ho1.rc)
    obtain ⟨A1, c1, rfl, hlc1, hm1, _⟩ := ho1.rc
    unfold maxLen at hm1
    clear ho1 hb1 K1 K2
    go_wp2_with fail
    refine H2.out.mono ?_
    rintro e w2 ⟨v2, rfl, ho2, hb2⟩
    have ho2 : OP 5 23 w2 w1.heap.size v2 S := ho2
    have HO2 := Lib.hid ho2
    have HB2 := Lib.hid (HB1.out.trans (hb2.mono HB1.out.size))
    have HO1' := Lib.hid (HO1.out.below hb2)
    have H3 := Lib.hid (K3.out v2 w2 ho2.rp)
    obtain ⟨A2, c2, hv2, hc263, hlc2⟩ := ho2.shape
    rw [← HNS.out] at hv2 hlc2
    subst hv2
    clear ho2 hb2 K3 H2 HO1
    go_wp2_with fail
    refine H3.out.mono ?_
    rintro e w3 ⟨v3, rfl, ho3, hb3⟩
    have ho3 : OF w3 w2.heap.size v3 [xs] := ho3
    have HO3 := Lib.hid ho3
    have HB3 := Lib.hid (HB2.out.trans (hb3.mono HB2.out.size))
    have HO1b := Lib.hid (HO1'.out.below hb3)
    have HO2b := Lib.hid (HO2.out.below hb3)
    have H4 := Lib.hid (K4.out _ w3 (HO2.out.below hb3).rp)
    obtain ⟨A3, c3, rfl, hc363, hlc3⟩ := ho3.shape
    clear ho3 hb3 K4 H3 HO1' HO2
    go_wp2_with fail
    refine H4.out.mono ?_
    rintro e w4 ⟨v4, rfl, ho4, hb4⟩
    have HB4 := Lib.hid (HB3.out.trans (hb4.mono HB3.out.size))
    have HO1c := Lib.hid (HO1b.out.below hb4)
    have HO2c := Lib.hid (HO2b.out.below hb4)
    have HO3c := Lib.hid (HO3.out.below hb4)
    obtain ⟨A4, c4, rfl, _, _⟩ := ho4.shape
    clear ho4 hb4 H4 HO1b HO2b HO3
    go_wp2_with fail
    refine (known_any _).mono ?_
    rintro e w5 ⟨rfl, hb5⟩
    have HB5 := Lib.hid (HB4.out.trans (hb5.mono HB4.out.size))
    obtain ⟨bf, of_, uf, hAf, hbf, huf, hrf⟩ := rf_at (HO3c.out.below hb5).rf (k := 0) (by simp)
    subst hAf
    have HRF := Lib.hid hrf
    obtain ⟨Af, cf, rfl, hlf, hmf, _⟩ := hrf
    obtain ⟨bs, os, us, hAs, hbs, hus, hrs⟩ := rp_at (HO2c.out.below hb5).rp (k := 0) (by rw [← HNS.out]; exact hpos)
    subst hAs
    have hs64 := H64.out _ (List.getElem_mem (show 0 < S.length by rw [← HNS.out]; exact hpos))
    obtain ⟨As, cs, hus2, hls, hms, _⟩ := hrs
    rw [hs64] at hus2
    subst hus2
    have HRL := Lib.hid (HO1c.out.below hb5).rc
    rw [Nat.add_zero] at huf hus
    simp only [List.getElem_cons_zero] at HRF
    have HUS := Lib.hid hus
    clear hb5 hus HO1c HO2c HO3c
    go_wp2_with fail
    refine (sameChgs_any _ _ xs _ HRF.out HRL.out).mono ?_
    rintro e w6 ⟨rfl, m, rfl⟩
    have hus6 : (w5.drewN m).cell? ⟨bs, os, none⟩ = _ := HUS.out
    have HB6 := Lib.hid (HB5.out.trans ((bel_drewN w5 m).mono HB5.out.size))
    go_wp2
    go_ret
    exact ⟨rfl, HB6.out⟩
  · have hrd := hno hk0
    clear hone hno
    rw [hrd] at K3
    clear hrd
    have hk1 : (0 : Int) < (k : Int) := by omega
    go_enter Try.func9, Try.ntmps9
    go_wp2_with fail
    refine K1.out.mono ?_
    rintro e w1 ⟨v1, rfl, ho1, hb1⟩
    have HO1 := Lib.hid ho1
    have HB1 := Lib.hid hb1
    have H2 := Lib.hid (K2.out v1 w1 ho1.rc)
    obtain ⟨A1, c1, rfl, hlc1, hm1, _⟩ := ho1.rc
    unfold maxLen at hm1
    clear ho1 hb1 K1 K2
    go_wp2_with fail
    refine H2.out.mono ?_
    rintro e w2 ⟨v2, rfl, ho2, hb2⟩
    have ho2 : OP 5 23 w2 w1.heap.size v2 S := ho2
    have HO2 := Lib.hid ho2
    have HB2 := Lib.hid (HB1.out.trans (hb2.mono HB1.out.size))
    have HO1' := Lib.hid (HO1.out.below hb2)
    have H3 := Lib.hid (K3.out v2 w2 ho2.rp)
    obtain ⟨A2, c2, hv2, hc263, hlc2⟩ := ho2.shape
    rw [← HNS.out] at hv2 hlc2
    subst hv2
    clear ho2 hb2 K3 H2 HO1
    go_wp2_with fail
    refine H3.out.mono ?_
    rintro e w3 ⟨v3, rfl, ho3, hb3⟩
    have ho3 : OF w3 w2.heap.size v3 [] := ho3
    have HO3 := Lib.hid ho3
    have HB3 := Lib.hid (HB2.out.trans (hb3.mono HB2.out.size))
    have HO1b := Lib.hid (HO1'.out.below hb3)
    have HO2b := Lib.hid (HO2.out.below hb3)
    have H4 := Lib.hid (K4.out _ w3 (HO2.out.below hb3).rp)
    obtain ⟨A3, c3, rfl, hc363, hlc3⟩ := ho3.shape
    clear ho3 hb3 K4 H3 HO1' HO2
    go_wp2_with fail
    refine H4.out.mono ?_
    rintro e w4 ⟨v4, rfl, ho4, hb4⟩
    have HB4 := Lib.hid (HB3.out.trans (hb4.mono HB3.out.size))
    have HO1c := Lib.hid (HO1b.out.below hb4)
    have HO2c := Lib.hid (HO2b.out.below hb4)
    have HO3c := Lib.hid (HO3.out.below hb4)
    obtain ⟨A4, c4, rfl, _, _⟩ := ho4.shape
    clear ho4 hb4 H4 HO1b HO2b HO3
    go_wp2_with fail
    refine (known_any _).mono ?_
    rintro e w5 ⟨rfl, hb5⟩
    have HB5 := Lib.hid (HB4.out.trans (hb5.mono HB4.out.size))
    clear hb5
    go_wp2
    go_ret
    exact ⟨rfl, HB5.out⟩
end Go.Proofs.Ytomkbgghljcbfaa
