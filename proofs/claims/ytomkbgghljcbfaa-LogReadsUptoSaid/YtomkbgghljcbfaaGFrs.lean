/-
  The contract of the statement's own Frames: frames of choices are a plain list.
-/
import Derived.Test.YtomkbgghljcbfaaGRefP
import Derived.Test.YtomkbgghljcbfaaChgM
import Derived.Test.YtomkbgghljcbfaaGCl
import Derived.Test.YtomkbgghljcbfaaGKnown
import Derived.Test.YtomkbgghljcbfaaChgBack
import Derived.Test.YtomkbgghljcbfaaEpochs
import Derived.Test.YtomkbgghljcbfaaGPg
import Derived.Test.YtomkbgghljcbfaaGSet
import Derived.Test.YtomkbgghljcbfaaGRead
set_option linter.unusedVariables false

namespace Go.Proofs.Ytomkbgghljcbfaa
open Go.RowKit Go.Rst Go.Pg Go.Crc
/-- Eight choices, and their changes. -/
def oct (c : List UInt8) (j : Nat) : List UInt8 := (c.drop (8 * j)).take 8
def gcs (c : List UInt8) (j : Nat) : List Chg := (rowsAt (oct c j) (nrows (oct c j) 4)).map chgOf
def nfr (c : List UInt8) : Nat := (min c.length 40 + 7) / 8
/-- The sectors of so many frames. -/
def framesL (ep : Nat) (c : List UInt8) (k : Nat) : List (List UInt8) := (List.range k).flatMap fun j : Nat => (partsL ep (j : Int) (gcs c j)).1
theorem framesL_succ (ep : Nat) (c : List UInt8) (k : Nat) : framesL ep c (k + 1) = framesL ep c k ++ (partsL ep k (gcs c k)).1 := by
  unfold framesL
  rw [List.range_succ, List.flatMap_append]
  simp
theorem gcs_short (c : List UInt8) (j : Nat) : ShortC (gcs c j) := madeC_short _ _
theorem gcs_len (c : List UInt8) (j : Nat) : (gcs c j).length ≤ 4 := by
  unfold gcs
  rw [List.length_map, rowsAt_length]
  exact nrows_le _ 4
theorem gcs_true {ep : Nat} (c : List UInt8) {j : Nat} (he : ep ≤ 1073741824) (hj : j ≤ 1073741824) : (partsL ep j (gcs c j)).2 = true :=
  parts_true (gcs c j) (gcs_short c j) (by have := gcs_len c j; omega) he hj
theorem gcs_back (c : List UInt8) (j : Nat) : readChgs (chgsL (gcs c j)) = (gcs c j, 0) := readChgs_back _ (by have := gcs_len c j; omega) (gcs_short c j)
theorem parts_few (ep n : Int) (cs : List Chg) : (partsL ep n cs).1.length ≤ 200 := by
  unfold partsL
  split
  · simp
  · split
    · simp
    · simp only [secL_length]; omega
theorem framesL_few (ep : Nat) (c : List UInt8) : ∀ k, (framesL ep c k).length ≤ 200 * k
  | 0 => by simp [framesL]
  | k + 1 => by
    have ih := framesL_few ep c k
    have := parts_few ep k (gcs c k)
    rw [framesL_succ, List.length_append]
    omega
theorem gcs_few (c : List UInt8) (j : Nat) : (chgsB (gcs c j)).length ≤ 100000000 ∧ (gcs c j).length ≤ 100000000 := by
  have h1 := chgsB_short _ (gcs_short c j)
  have h2 := gcs_len c j
  omega
def GivesFs (w : World) (ss : List (List UInt8)) (e : Ending) (w' : World) : Prop := ∃ u, e = .returned u ∧ OP 5 23 w' w.heap.size u ss ∧ Below w.heap.size w w'

set_option maxRecDepth 100000 in
set_option maxHeartbeats 3000000 in
theorem frames_any (v : Value) (c : List UInt8) (ep : Nat) (w : World) (hv : RB w v c) (hl : c.length ≤ 140737488351232) :
    Calls Try.prog 14 #[v, .int .i64 ep] w (GivesFs w (framesL ep c (nfr c))) := by
  have HV := Lib.hid hv
  obtain ⟨A, cc, rfl, hc1, hc2, hc3⟩ := hv
  unfold maxLen at hc2
  have HC3 := Lib.hid hc3
  obtain ⟨L, hL⟩ : ∃ L, L = c.length := ⟨_, rfl⟩
  have hnf : nfr c = (min L 40 + 7) / 8 := by rw [hL]; rfl
  obtain ⟨nf, hnf'⟩ : ∃ nf, nf = nfr c := ⟨_, rfl⟩
  rw [← hnf'] at hnf ⊢
  have HL := Lib.hid hL
  have HNF := Lib.hid hnf
  rw [← hL] at hl hc1 ⊢
  clear hc3 hL hnf hnf'
  go_enter Try.func14, Try.ntmps14
  go_wp2
  go_loopw [5, 6, 7, 8] (fun o i _ _ wr => ∃ k I : Nat, I = 8 * k ∧ k ≤ nf ∧ i = .int .i64 I ∧ OP 5 23 wr w.heap.size o (framesL ep c k) ∧ Below w.heap.size w wr)
    (fun _ i _ _ _ => 48 - (intOf i).toNat)
  case atStart => exact ⟨0, 0, rfl, Nat.zero_le _, rfl, OP.nil_ _ _ _ _, Below.refl _ _⟩
  case round =>
    obtain ⟨k, I, hI, hk, rfl, hop, hbel⟩ := hrel
    have hfl := framesL_few ep c k
    obtain ⟨Ao, co, rfl, _, _⟩ := hop.shape
    have hsz := hbel.size
    have HOP := Lib.hid hop
    have HB := Lib.hid hbel
    clear hop hbel
    by_cases hlt : I < L ∧ I < 40
    · obtain ⟨hlt1, hlt2⟩ := hlt
      have hk1 : k + 1 ≤ nf := by have := HNF.out; omega
      have hk4 : k ≤ 4 := by omega
      obtain ⟨b, off, rfl⟩ : ∃ b off, A = some ⟨b, off, none⟩ := by
        rcases HC3.out with h | ⟨b, off, h, _⟩
        · rw [h] at HL; have := HL.out; simp at this; omega
        · exact ⟨b, off, h⟩
      have hq1 : ((I : Int)).tdiv 8 = k := by rw [Int.tdiv_eq_ediv_of_nonneg (by omega)]; omega
      have hq2 : (I : Int) / 8 = k := by omega
      have hi1 : (I : Int) < L := by omega
      have hi2 : (I : Int) < 40 := by omega
      have hi0 : (0 : Int) ≤ (I : Int) := by omega
      have hcc : ¬ (cc = I) := by omega
      have hcc2 : (L : Int) ≤ cc := by omega
      have HR2 := Lib.hid (show RB wr (.slice (some ⟨b, off, none⟩) c.length cc) c by have h := HV.out.below HB.out; rw [← HL.out]; rw [← HL.out] at h; exact h)
      have HSUC := Lib.hid (framesL_succ ep c k)
      have HII := Lib.hid hI
      have hpf := parts_few ep k (gcs c k)
      obtain ⟨g1, g2⟩ := gcs_few c k
      have K5 := Lib.hid (fun W v (h : RC W v (gcs c k)) => refParts_any ep k v (gcs c k) W h g1 g2)
      clear hI g1 g2
      obtain ⟨M, hM⟩ : ∃ M, M = min (I + 8) L := ⟨_, rfl⟩
      have hmin : min ((I : Int) + 8) (L : Int) = (M : Int) := by omega
      have hm1 : (I : Int) ≤ M := by omega
      have hm2 : (M : Int) ≤ L := by omega
      have hpc := HR2.out.cut (q := I) (n := M - I) (by rw [← HL.out]; omega)
      have hpe : (c.drop I).take (M - I) = oct c k := by
        unfold oct
        rw [← HII.out, show M - I = min 8 (L - I) by omega, ← List.take_take, List.take_of_length_le (l := (c.drop I)) (i := L - I) (by rw [List.length_drop, ← HL.out]; omega)]
      have hol : (oct c k).length ≤ 140737488351232 := by rw [← hpe, List.length_take, List.length_drop]; omega
      rw [hpe] at hpc
      clear hpe hM
      have K4 := Lib.hid (changeList_any _ (oct c k) 4 (by decide) _ hpc hol)
      rw [show (rowsAt (oct c k) (nrows (oct c k) 4)).map chgOf = gcs c k from rfl] at K4
      generalize gcs c k = cs at *
      clear hpc hol
      go_wp2_with fail
      refine K4.out.mono ?_
      rintro e w4 ⟨v4, rfl, ho4, hb4⟩
      have H5 := Lib.hid (K5.out w4 v4 ho4.rc)
      have HB4 := Lib.hid (HB.out.trans (hb4.mono hsz))
      have HOP4 := Lib.hid (HOP.out.below hb4)
      obtain ⟨A4, c4, rfl, hl4, hm4, _⟩ := ho4.rc
      clear ho4 hb4 K4 K5 HOP
      generalize partsL (ep : Int) (k : Int) cs = R at *
      obtain ⟨S, ok⟩ := R
      simp only at hpf HSUC
      go_wp2_with fail
      refine H5.out.mono ?_
      rintro e w5 ⟨v5, rfl, ho5, hb5⟩
      have ho5 : OP 5 23 w5 w4.heap.size v5 S := ho5
      have HB5 := Lib.hid (HB4.out.trans (hb5.mono HB4.out.size))
      have hop5 := HOP4.out.below hb5
      have hs5 := ho5.base_ HB4.out.size
      obtain ⟨A5, c5, rfl, hc5, hl5⟩ := ho5.shape
      obtain ⟨us, hus, hus2, hus3⟩ := hop5
      obtain ⟨ts, hts, hts2, hts3⟩ := hs5
      have hul : us.length = (framesL ep c k).length := by rw [← hus, List.length_map]
      have htl : ts.length = S.length := by rw [← hts, List.length_map]
      have HUS := Lib.hid hus
      have HTS := Lib.hid hts
      have HU2 := Lib.hid hus2
      have HU3 := Lib.hid hus3
      have HT3 := Lib.hid hts3
      have HUL := Lib.hid hul
      have HTL := Lib.hid htl
      have HSRC := Lib.hid (OP.src hts2 Try.underlying29 (fun x hx => fb_one (hts3 x hx)))
      clear hus hts hus2 hts2 hus3 hts3 hul htl ho5 hb5 H5 HOP4
      go_wp2_with (at_builtin; refine wpList_own rfl (.tmp 35) (.tmp 36) 29 29 rfl w.heap.size 23 (.slice none 0 0) 1 24 Try.underlying29 info23 rfl rfl HU2.out rfl HSRC.out HB5.out (Nat.le_refl _) ?_ ?_ ?_ ?_)
      · have := HUL.out; have := HTL.out; unfold maxLen; omega
      · have := HUL.out; have := HTL.out; omega
      · exact HB5.out.size
      intro v6 w6 ho6 hb6 hg6
      have hop6 := OP.join (e := 5) (eP := 23) (by decide) HU2.out HU3.out HT3.out ho6 hg6
      rw [HUS.out, HTS.out, ← HSUC.out] at hop6
      have HOP6 := Lib.hid hop6
      have HB6 := Lib.hid hb6
      clear ho6 hb6 hg6 hop6
      go_wp2
      go_roundw
      case rel => exact ⟨k + 1, I + 8, by have := HII.out; omega, hk1, by go_num, HOP6.out, HB6.out⟩
      case measure => simp [intOf]; omega
    · have hke : k = nf := by have := HNF.out; omega
      subst hke
      have hno : ¬ (I : Int) < L ∨ ¬ (I : Int) < 40 := by omega
      rcases hno with hno | hno
      · go_wp2
        go_ret
        exact ⟨_, rfl, HOP.out, HB.out⟩
      · by_cases hno2 : (I : Int) < L
        · go_wp2
          go_ret
          exact ⟨_, rfl, HOP.out, HB.out⟩
        · go_wp2
          go_ret
          exact ⟨_, rfl, HOP.out, HB.out⟩
end Go.Proofs.Ytomkbgghljcbfaa

/-
  Plain mathematics of the log: frames one behind the other are read as they were made; behind a sector that is none of theirs nothing is read. No program.
-/
namespace Go.Proofs.Ytomkbgghljcbfaa
open Go.RowKit Go.Rst Go.Pg Go.Crc
/-- The sectors of frames, numbered from k on. -/
def secsF (ep : Nat) : Nat → List (List Chg) → List (List UInt8)
  | _, [] => []
  | k, c :: cs => (partsL ep k c).1 ++ secsF ep (k + 1) cs
def MadeF (ep : Nat) : Nat → List (List Chg) → Prop
  | _, [] => True
  | k, c :: cs => (partsL ep k c).2 = true ∧ readChgs (chgsL c) = (c, 0) ∧ MadeF ep (k + 1) cs
theorem secsF_snoc (ep : Nat) (c : List Chg) : ∀ (cs : List (List Chg)) (k : Nat), secsF ep k (cs ++ [c]) = secsF ep k cs ++ (partsL ep ((k + cs.length : Nat) : Int) c).1
  | [], k => by simp [secsF]
  | d :: cs, k => by
    rw [List.cons_append, secsF, secsF, secsF_snoc ep c cs (k + 1), List.append_assoc, List.length_cons, show k + 1 + cs.length = k + (cs.length + 1) by omega]
theorem secsF_len {ep : Nat} : ∀ {cs : List (List Chg)} {k : Nat}, MadeF ep k cs → cs.length ≤ (secsF ep k cs).length
  | [], _, _ => Nat.le_refl _
  | c :: cs, k, h => by
    obtain ⟨h1, _, h3⟩ := h
    have ih := secsF_len h3
    have := parts_count h1
    have := chgsL_pieces c
    rw [secsF, List.length_append, List.length_cons]
    omega
/-- Frames that were made are read as they were made. -/
theorem readF_all {ep : Nat} : ∀ {cs : List (List Chg)} {k f : Nat}, MadeF ep k cs → cs.length < f → readF f ep (secsF ep k cs) k = (cs, (secsF ep k cs).length)
  | [], k, f, _, _ => by
    rw [secsF, readF_stop (by rw [frame_nil])]
    rfl
  | c :: cs, k, f, h, hf => by
    obtain ⟨h1, h2, h3⟩ := h
    rw [List.length_cons] at hf
    obtain ⟨f, rfl⟩ : ∃ g, f = g + 1 := ⟨f - 1, by omega⟩
    rw [secsF, readF_made h1 h2, readF_all h3 (by omega), List.length_append]
theorem readS_all {ep : Nat} {cs : List (List Chg)} (h : MadeF ep 0 cs) : readS ep (secsF ep 0 cs) = (cs, (secsF ep 0 cs).length) := by
  have := secsF_len h
  unfold readS
  exact readF_all h (by omega)
/-- A sector that is none of an epoch's. -/
def Bad (ep : Nat) (b : List UInt8) : Prop := ∀ n j of, ¬ GoodS ep n b j of
theorem bad_stop {ep k : Nat} {c : List Chg} (h : (partsL ep k c).2 = true) (T : List (List UInt8)) {i : Nat} (hi : i < (partsL ep k c).1.length) {b : List UInt8} (hb : Bad ep b) :
    (frameS ep k (((partsL ep k c).1 ++ T).set i b)).2 = 0 := by
  refine Classical.byContradiction fun hc => ?_
  obtain ⟨l, cnt, he⟩ : ∃ l cnt, frameS ep k (((partsL ep k c).1 ++ T).set i b) = (l, cnt) := ⟨_, _, rfl⟩
  rw [he] at hc
  obtain ⟨g, _⟩ := frame_good he hc
  have htold := g.told
  have hlo := g.lo
  obtain ⟨h1, h2, h3, h4, h5, h6⟩ := parts_of h
  have hcnt := parts_count h
  have hlt : i < cnt := by
    by_cases h0 : i = 0
    · omega
    · obtain ⟨t, ht⟩ := secL_zero (ep := (ep : Int).toNat) (n := (k : Int).toNat) (b := chgsL c) (chgsL_pieces c)
      obtain ⟨j, rfl⟩ : ∃ j, i = j + 1 := ⟨i - 1, by omega⟩
      have hpl := pcL_length (chgsL c) 0
      have hb9 : toldL (((partsL ep k c).1 ++ T).set (j + 1) b) = ofL (chgsL c) := by
        rw [h1, ht, List.cons_append, List.set_cons_succ]
        show (if (partL (ep : Int).toNat (k : Int).toNat 0 (ofL (chgsL c)) (pcL (chgsL c) 0)).length = 64 then b9 _ else 0) = _
        rw [if_pos (partL_length (by omega)), (part_bytes (by omega) (by omega)).1]
      omega
  have hil : i < (((partsL ep k c).1 ++ T).set i b).length := by rw [List.length_set, List.length_append]; omega
  have hg := g.good i hil hlt
  rw [List.getElem_set_self] at hg
  exact hb _ _ _ hg
theorem readF_bad {ep : Nat} {b : List UInt8} (hb : Bad ep b) : ∀ {cs : List (List Chg)} {k f i : Nat}, MadeF ep k cs → i < (secsF ep k cs).length →
    ∃ j q, readF f ep ((secsF ep k cs).set i b) k = (cs.take j, q) ∧ q ≤ i
  | [], k, f, i, _, hi => by simp [secsF] at hi
  | c :: cs, k, f, i, h, hi => by
    obtain ⟨h1, h2, h3⟩ := h
    rw [secsF] at hi ⊢
    by_cases hlt : i < (partsL ep k c).1.length
    · exact ⟨0, 0, by rw [readF_stop (bad_stop h1 _ hlt hb)]; rfl, Nat.zero_le _⟩
    · cases f with
      | zero => exact ⟨0, 0, rfl, Nat.zero_le _⟩
      | succ f =>
        rw [List.length_append] at hi
        obtain ⟨j, q, e, hq⟩ := readF_bad (f := f) hb h3 (i := i - (partsL ep k c).1.length) (by omega)
        have es : ((partsL ep k c).1 ++ secsF ep (k + 1) cs).set i b = (partsL ep k c).1 ++ (secsF ep (k + 1) cs).set (i - (partsL ep k c).1.length) b := by
          rw [List.set_append_right _ _ (by omega)]
        refine ⟨j + 1, (partsL ep k c).1.length + q, ?_, by omega⟩
        rw [es, readF_made h1 h2, e, List.take_succ_cons]
theorem readS_bad {ep : Nat} {b : List UInt8} (hb : Bad ep b) {cs : List (List Chg)} (h : MadeF ep 0 cs) {i : Nat} (hi : i < (secsF ep 0 cs).length) :
    ∃ j q, readS ep ((secsF ep 0 cs).set i b) = (cs.take j, q) ∧ q ≤ i := by
  unfold readS
  exact readF_bad hb h hi
theorem bad_zero (ep : Nat) : Bad ep (List.replicate 64 0) := fun n j of g => by
  have h := g.lo
  have e : b10 (List.replicate 64 (0 : UInt8)) = 0 := by decide
  omega
theorem bad_other {ep e2 n i of : Nat} {p : List UInt8} (h1 : ep ≤ 1073741824) (h2 : e2 ≤ 1073741824) (hne : ep ≠ e2) : Bad ep (partL e2 n i of p) := fun m j of' g => by
  have h := part_head g.eq
  exact hne (wordL_inj h.1.symm (by omega) (by omega))
theorem bad_secs {ep e2 : Nat} (h1 : ep ≤ 1073741824) (h2 : e2 ≤ 1073741824) (hne : ep ≠ e2) : ∀ {cs : List (List Chg)} {k : Nat} {s : List UInt8}, s ∈ secsF e2 k cs → Bad ep s
  | [], k, s, h => by cases h
  | c :: cs, k, s, h => by
    rw [secsF] at h
    rcases List.mem_append.1 h with h | h
    · unfold partsL at h
      split at h
      · cases h
      · split at h
        · cases h
        · simp only [secL, Int.toNat_natCast] at h
          obtain ⟨x, _, rfl⟩ := List.mem_map.1 h
          exact bad_other h1 h2 hne
    · exact bad_secs h1 h2 hne h
end Go.Proofs.Ytomkbgghljcbfaa

/-
  Words on pages of the call's own: one page read, one page laid anew.
-/
namespace Go.Proofs.Ytomkbgghljcbfaa
open Go.RowKit Go.Rst Go.Pg Go.Crc
theorem op_at {w : World} {base : Nat} {v : Value} {ps : List (List UInt8)} (h : OP 5 23 w base v ps) {j : Nat} (hj : j < ps.length) :
    ∃ g c u, v = .slice (some ⟨g, 0, none⟩) ps.length c ∧ base ≤ g ∧ g < w.heap.size ∧ w.cell? ⟨g, j, none⟩ = some u ∧ FB 5 w base u ps[j] := by
  obtain ⟨us, rfl, ho, hf⟩ := h
  have hj' : j < us.length := by simpa using hj
  rcases ho.2 with ⟨_, h0⟩ | ⟨g, cap, cur, rfl, hb, hg, hnc, hcm, hcs, ht⟩
  · omega
  · have hc := ho.cells (g := g) rfl j us[j].2 (by simp [hj'])
    rw [Addr.add_lit, Nat.zero_add] at hc
    refine ⟨g, cap, us[j].2, by rw [List.length_map], hb, (Array.getElem?_eq_some_iff.1 hg).1, hc, ?_⟩
    simpa using hf us[j] (List.getElem_mem hj')
theorem op_set {w : World} {base g n c i : Nat} {ps : List (List UInt8)} {u : Value} {l : List UInt8} (h : OP 5 23 w base (.slice (some ⟨g, 0, none⟩) n c) ps) (hi : i < ps.length) (hu : FB 5 w base u l) :
    OP 5 23 (w.setCell ⟨g, i, none⟩ u) base (.slice (some ⟨g, 0, none⟩) n c) (ps.set i l) := by
  obtain ⟨us, rfl, ho, hf⟩ := h
  have hn : n = us.length := by
    rcases ho.2 with ⟨he, _⟩ | ⟨g2, cap, cur2, he, _⟩
    · cases he
    · injection he
  subst hn
  refine ⟨us.set i (l, u), by rw [List.map_set], ?_, fun x hx => ?_⟩
  · rw [List.length_set, List.map_set]
    exact own_set ho _ _
  · refine fb_own ho (by decide) _ _ ?_
    rcases List.mem_or_eq_of_mem_set hx with hx | hx
    · exact hf x hx
    · subst hx; exact hu
theorem op_frozen {w : World} {base n c g : Nat} {ps : List (List UInt8)} (h : OP 5 23 w base (.slice (some ⟨g, 0, none⟩) n c) ps) (i : Nat) : w.frozen? ⟨g, i, none⟩ = false := by
  obtain ⟨us, _, ho, _⟩ := h
  rcases ho.2 with ⟨he, _⟩ | ⟨g2, cap, cur2, he, hb, hg2, _⟩
  · cases he
  · injection he with he _ _
    injection he with he
    injection he with e1 _ _
    subst e1
    exact Blk.frozen (t := 23) (cs := cur2) hg2 i
theorem OC.set_far {w : World} {base : Nat} {v : Value} {fs : List Chg} (h : OC 5 51 w base v fs) {p : Addr} (hp : p.block < base) (u : Value) : OC 5 51 (w.setCell p u) base v fs := h.setCell hp u
theorem OF.set_far {w : World} {base : Nat} {v : Value} {fs : List (List Chg)} (h : OF w base v fs) {p : Addr} (hp : p.block < base) (u : Value) : OF (w.setCell p u) base v fs := by
  obtain ⟨us, h1, ho, hf⟩ := h
  exact ⟨us, h1, ownsRow_setCell_below ho hp u, fun x hx => (hf x hx).setCell hp u⟩
end Go.Proofs.Ytomkbgghljcbfaa
