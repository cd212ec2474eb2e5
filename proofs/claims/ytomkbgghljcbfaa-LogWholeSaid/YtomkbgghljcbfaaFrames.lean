/-
  The contract of the statement's own Frames: frames of choices are a plain list.
-/
import Derived.Test.YtomkbgghljcbfaaGRefP
import Derived.Test.YtomkbgghljcbfaaChgM
import Derived.Test.YtomkbgghljcbfaaGCl
import Derived.Test.YtomkbgghljcbfaaGKnown
import Derived.Test.YtomkbgghljcbfaaChgBack
import Derived.Test.YtomkbgghljcbfaaEpochs
namespace Go.Proofs.Ytomkbgghljcbfaa
open Go.RowKit Go.Rst Go.Pg Go.Crc
/-- Eight choices, and their changes. -/
def oct (c : List UInt8) (j : Nat) : List UInt8 := (c.drop (8 * j)).take 8
def gcs (c : List UInt8) (j : Nat) : List Chg := (rowsAt (oct c j) (nrows (oct c j) 4)).map chgOf
def nfr (c : List UInt8) : Nat := (min c.length 40 + 7) / 8
/-- The sectors of so many frames. -/
def framesL (ep : Nat) (c : List UInt8) (k : Nat) : List (List UInt8) := (List.range k).flatMap fun j : Nat => (partsL ep (j : Int) (gcs c j)).1
theorem framesL_succ (ep : Nat) (c : List UInt8) (k : Nat) : framesL ep c (k + 1) = framesL ep c k ++ (partsL ep k (gcs c k)).1 := by
  unfold framesL
  rw [List.range_succ, List.flatMap_append]
  simp
theorem gcs_short (c : List UInt8) (j : Nat) : ShortC (gcs c j) := madeC_short _ _
theorem gcs_len (c : List UInt8) (j : Nat) : (gcs c j).length ≤ 4 := by
  unfold gcs
  rw [List.length_map, rowsAt_length]
  exact nrows_le _ 4
theorem gcs_true {ep : Nat} (c : List UInt8) {j : Nat} (he : ep ≤ 1073741824) (hj : j ≤ 1073741824) : (partsL ep j (gcs c j)).2 = true :=
  parts_true (gcs c j) (gcs_short c j) (by have := gcs_len c j; omega) he hj
theorem gcs_back (c : List UInt8) (j : Nat) : readChgs (chgsL (gcs c j)) = (gcs c j, 0) := readChgs_back _ (by have := gcs_len c j; omega) (gcs_short c j)
theorem parts_few (ep n : Int) (cs : List Chg) : (partsL ep n cs).1.length ≤ 200 := by
  unfold partsL
  split
  · simp
  · split
    · simp
    · simp only [secL_length]; omega
theorem framesL_few (ep : Nat) (c : List UInt8) : ∀ k, (framesL ep c k).length ≤ 200 * k
  | 0 => by simp [framesL]
  | k + 1 => by
    have ih := framesL_few ep c k
    have := parts_few ep k (gcs c k)
    rw [framesL_succ, List.length_append]
    omega
theorem gcs_few (c : List UInt8) (j : Nat) : (chgsB (gcs c j)).length ≤ 100000000 ∧ (gcs c j).length ≤ 100000000 := by
  have h1 := chgsB_short _ (gcs_short c j)
  have h2 := gcs_len c j
  omega
def GivesFs (w : World) (ss : List (List UInt8)) (e : Ending) (w' : World) : Prop := ∃ u, e = .returned u ∧ OP 5 23 w' w.heap.size u ss ∧ Below w.heap.size w w'

set_option maxRecDepth 100000 in
set_option maxHeartbeats 3000000 in
theorem frames_any (v : Value) (c : List UInt8) (ep : Nat) (w : World) (hv : RB w v c) (hl : c.length ≤ 140737488351232) :
    Calls Try.prog 14 #[v, .int .i64 ep] w (GivesFs w (framesL ep c (nfr c))) := by
  have HV := Lib.hid hv
  obtain ⟨A, cc, rfl, hc1, hc2, hc3⟩ := hv
  unfold maxLen at hc2
  have HC3 := Lib.hid hc3
  obtain ⟨L, hL⟩ : ∃ L, L = c.length := ⟨_, rfl⟩
  have hnf : nfr c = (min L 40 + 7) / 8 := by rw [hL]; rfl
  obtain ⟨nf, hnf'⟩ : ∃ nf, nf = nfr c := ⟨_, rfl⟩
  rw [← hnf'] at hnf ⊢
  have HL := Lib.hid hL
  have HNF := Lib.hid hnf
  rw [← hL] at hl hc1 ⊢
  clear hc3 hL hnf hnf'
  go_enter Try.func14, Try.ntmps14
  go_wp2
  go_loopw [5, 6, 7, 8] (fun o i _ _ wr => ∃ k I : Nat, I = 8 * k ∧ k ≤ nf ∧ i = .int .i64 I ∧ OP 5 23 wr w.heap.size o (framesL ep c k) ∧ Below w.heap.size w wr)
    (fun _ i _ _ _ => 48 - (intOf i).toNat)
  case atStart => exact ⟨0, 0, rfl, Nat.zero_le _, rfl, OP.nil_ _ _ _ _, Below.refl _ _⟩
  case round =>
    obtain ⟨k, I, hI, hk, rfl, hop, hbel⟩ := hrel
    have hfl := framesL_few ep c k
    obtain ⟨Ao, co, rfl, _, _⟩ := hop.shape
    have hsz := hbel.size
    have HOP := Lib.hid hop
    have HB := Lib.hid hbel
    clear hop hbel
    by_cases hlt : I < L ∧ I < 40
    · obtain ⟨hlt1, hlt2⟩ := hlt
      have hk1 : k + 1 ≤ nf := by have := HNF.out; omega
      have hk4 : k ≤ 4 := by omega
      obtain ⟨b, off, rfl⟩ : ∃ b off, A = some ⟨b, off, none⟩ := by
        rcases HC3.out with h | ⟨b, off, h, _⟩
        · rw [h] at HL; have := HL.out; simp at this; omega
        · exact ⟨b, off, h⟩
      have hq1 : ((I : Int)).tdiv 8 = k := by rw [Int.tdiv_eq_ediv_of_nonneg (by omega)]; omega
      have hq2 : (I : Int) / 8 = k := by omega
      have hi1 : (I : Int) < L := by omega
      have hi2 : (I : Int) < 40 := by omega
      have hi0 : (0 : Int) ≤ (I : Int) := by omega
      have hcc : ¬ (cc = I) := by omega
      have hcc2 : (L : Int) ≤ cc := by omega
      have HR2 := Lib.hid (show RB wr (.slice (some ⟨b, off, none⟩) c.length cc) c by have h := HV.out.below HB.out; rw [← HL.out]; rw [← HL.out] at h; exact h)
      have HSUC := Lib.hid (framesL_succ ep c k)
      have HII := Lib.hid hI
      have hpf := parts_few ep k (gcs c k)
      obtain ⟨g1, g2⟩ := gcs_few c k
      have K5 := Lib.hid (fun W v (h : RC W v (gcs c k)) => refParts_any ep k v (gcs c k) W h g1 g2)
      clear hI g1 g2
      obtain ⟨M, hM⟩ : ∃ M, M = min (I + 8) L := ⟨_, rfl⟩
      have hmin : min ((I : Int) + 8) (L : Int) = (M : Int) := by omega
      have hm1 : (I : Int) ≤ M := by omega
      have hm2 : (M : Int) ≤ L := by omega
      have hpc := HR2.out.cut (q := I) (n := M - I) (by rw [← HL.out]; omega)
      have hpe : (c.drop I).take (M - I) = oct c k := by
        unfold oct
        rw [← HII.out, show M - I = min 8 (L - I) by omega, ← List.take_take, List.take_of_length_le (l := (c.drop I)) (i := L - I) (by rw [List.length_drop, ← HL.out]; omega)]
      have hol : (oct c k).length ≤ 140737488351232 := by rw [← hpe, List.length_take, List.length_drop]; omega
      rw [hpe] at hpc
      clear hpe hM
      have K4 := Lib.hid (changeList_any _ (oct c k) 4 (by decide) _ hpc hol)
      rw [show (rowsAt (oct c k) (nrows (oct c k) 4)).map chgOf = gcs c k from rfl] at K4
      generalize gcs c k = cs at *
      clear hpc hol
      go_wp2_with fail
      refine K4.out.mono ?_
      rintro e w4 ⟨v4, rfl, ho4, hb4⟩
      have H5 := Lib.hid (K5.out w4 v4 ho4.rc)
      have HB4 := Lib.hid (HB.out.trans (hb4.mono hsz))
      have HOP4 := Lib.hid (HOP.out.below hb4)
      obtain ⟨A4, c4, rfl, hl4, hm4, _⟩ := ho4.rc
      clear ho4 hb4 K4 K5 HOP
      generalize partsL (ep : Int) (k : Int) cs = R at *
      obtain ⟨S, ok⟩ := R
      simp only at hpf HSUC
      go_wp2_with fail
      refine H5.out.mono ?_
      rintro e w5 ⟨v5, rfl, ho5, hb5⟩
      have ho5 : OP 5 23 w5 w4.heap.size v5 S := ho5
      have HB5 := Lib.hid (HB4.out.trans (hb5.mono HB4.out.size))
      have hop5 := HOP4.out.below hb5
      have hs5 := ho5.base_ HB4.out.size
      obtain ⟨A5, c5, rfl, hc5, hl5⟩ := ho5.shape
      obtain ⟨us, hus, hus2, hus3⟩ := hop5
      obtain ⟨ts, hts, hts2, hts3⟩ := hs5
      have hul : us.length = (framesL ep c k).length := by rw [← hus, List.length_map]
      have htl : ts.length = S.length := by rw [← hts, List.length_map]
      have HUS := Lib.hid hus
      have HTS := Lib.hid hts
      have HU2 := Lib.hid hus2
      have HU3 := Lib.hid hus3
      have HT3 := Lib.hid hts3
      have HUL := Lib.hid hul
      have HTL := Lib.hid htl
      have HSRC := Lib.hid (OP.src hts2 Try.underlying29 (fun x hx => fb_one (hts3 x hx)))
      clear hus hts hus2 hts2 hus3 hts3 hul htl ho5 hb5 H5 HOP4
      go_wp2_with (at_builtin; refine wpList_own rfl (.tmp 35) (.tmp 36) 29 29 rfl w.heap.size 23 (.slice none 0 0) 1 24 Try.underlying29 info23 rfl rfl HU2.out rfl HSRC.out HB5.out (Nat.le_refl _) ?_ ?_ ?_ ?_)
      · have := HUL.out; have := HTL.out; unfold maxLen; omega
      · have := HUL.out; have := HTL.out; omega
      · exact HB5.out.size
      intro v6 w6 ho6 hb6 hg6
      have hop6 := OP.join (e := 5) (eP := 23) (by decide) HU2.out HU3.out HT3.out ho6 hg6
      rw [HUS.out, HTS.out, ← HSUC.out] at hop6
      have HOP6 := Lib.hid hop6
      have HB6 := Lib.hid hb6
      clear ho6 hb6 hg6 hop6
      go_wp2
      go_roundw
      case rel => exact ⟨k + 1, I + 8, by have := HII.out; omega, hk1, by go_num, HOP6.out, HB6.out⟩
      case measure => simp [intOf]; omega
    · have hke : k = nf := by have := HNF.out; omega
      subst hke
      have hno : ¬ (I : Int) < L ∨ ¬ (I : Int) < 40 := by omega
      rcases hno with hno | hno
      · go_wp2
        go_ret
        exact ⟨_, rfl, HOP.out, HB.out⟩
      · by_cases hno2 : (I : Int) < L
        · go_wp2
          go_ret
          exact ⟨_, rfl, HOP.out, HB.out⟩
        · go_wp2
          go_ret
          exact ⟨_, rfl, HOP.out, HB.out⟩
end Go.Proofs.Ytomkbgghljcbfaa
