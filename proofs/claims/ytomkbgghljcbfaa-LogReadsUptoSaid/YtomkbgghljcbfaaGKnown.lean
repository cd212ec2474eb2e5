/-
  Plain mathematics of the log: frames that were made are read back. No program.
-/
import Derived.Test.YtomkbgghljcbfaaGRead
import Derived.Test.YtomkbgghljcbfaaGChg
import Derived.Test.YtomkbgghljcbfaaApply
import Derived.Test.YtomkbgghljcbfaaDiff
import Derived.Test.YtomkbgghljcbfaaParts
import Derived.Test.YtomkbgghljcbfaaReadP
import Derived.Lib.SlBytesConst
set_option linter.unusedVariables false

namespace Go.Proofs.Ytomkbgghljcbfaa
open Go.RowKit Go.Rst Go.Pg Go.Crc
theorem allP_append (a b : List (List UInt8)) : allP (a ++ b) = allP a ++ allP b := by unfold allP; rw [List.flatMap_append]
theorem allP_one (s : List UInt8) : allP [s] = pieceP s := by unfold allP; simp
theorem allP_sec (ep n : Nat) (b : List UInt8) (hb : ofL b ≤ 255) : ∀ k, allP (secL ep n b k) = b.take (49 * k)
  | 0 => by simp [allP, secL]
  | k + 1 => by
    rw [secL_succ, allP_append, allP_one, allP_sec ep n b hb k, (part_bytes (by have := pcL_length b k; omega) hb).2.2]
    rw [show 49 * (k + 1) = 49 * k + 49 by omega, List.take_add]
    rfl
theorem ofL_le (b : List UInt8) : b.length ≤ 49 * ofL b := by unfold ofL; omega
theorem secL_len {ep n : Nat} {b : List UInt8} {k : Nat} {s : List UInt8} (h : s ∈ secL ep n b k) : s.length = 64 := by
  unfold secL at h
  rw [List.mem_map] at h
  obtain ⟨i, _, rfl⟩ := h
  exact partL_length (by have := pcL_length b i; omega)
theorem secL_zero {ep n : Nat} {b : List UInt8} {k : Nat} (h : 0 < k) : ∃ t, secL ep n b k = partL ep n 0 (ofL b) (pcL b 0) :: t := by
  obtain ⟨k, rfl⟩ : ∃ j, k = j + 1 := ⟨k - 1, by omega⟩
  unfold secL
  rw [List.range_succ_eq_map, List.map_cons]
  exact ⟨_, rfl⟩
theorem chgsL_pieces (cs : List Chg) : 0 < ofL (chgsL cs) := by
  have h := numL_pos cs.length
  unfold ofL chgsL
  rw [List.length_append]
  omega
theorem parts_of {epoch num : Int} {cs : List Chg} (h : (partsL epoch num cs).2 = true) :
    (partsL epoch num cs).1 = secL epoch.toNat num.toNat (chgsL cs) (ofL (chgsL cs)) ∧ ofL (chgsL cs) ≤ 200 ∧ 0 ≤ epoch ∧ epoch ≤ 1073741824 ∧ 0 ≤ num ∧ num ≤ 1073741824 := by
  unfold partsL at h ⊢
  split at h
  · cases h
  · split at h
    · cases h
    · rename_i h1 h2
      rw [if_neg h1, if_neg h2]
      exact ⟨rfl, by omega, by omega, by omega, by omega, by omega⟩
theorem parts_count {epoch num : Int} {cs : List Chg} (h : (partsL epoch num cs).2 = true) : (partsL epoch num cs).1.length = ofL (chgsL cs) := by
  rw [(parts_of h).1, secL_length]
/-- A frame that was made, at the front of more sectors, is read as it was made. -/
theorem made_frame {epoch num : Int} {cs : List Chg} (h : (partsL epoch num cs).2 = true) (hr : readChgs (chgsL cs) = (cs, 0)) (rest : List (List UInt8)) :
    frameS epoch num ((partsL epoch num cs).1 ++ rest) = (cs, (partsL epoch num cs).1.length) := by
  obtain ⟨h1, h2, h3, h4, h5, h6⟩ := parts_of h
  have hpos := chgsL_pieces cs
  obtain ⟨t, ht⟩ := secL_zero (ep := epoch.toNat) (n := num.toNat) (b := chgsL cs) hpos
  have htold : toldL ((partsL epoch num cs).1 ++ rest) = ofL (chgsL cs) := by
    rw [h1, ht, List.cons_append]
    have hpl := pcL_length (chgsL cs) 0
    show (if (partL epoch.toNat num.toNat 0 (ofL (chgsL cs)) (pcL (chgsL cs) 0)).length = 64 then b9 _ else 0) = _
    rw [if_pos (partL_length (by omega)), (part_bytes (by omega) (by omega)).1]
  have hlen := parts_count h
  have htk : ((partsL epoch num cs).1 ++ rest).take (ofL (chgsL cs)) = (partsL epoch num cs).1 := List.take_left' hlen
  have hall : allP (partsL epoch num cs).1 = chgsL cs := by
    rw [h1, allP_sec _ _ _ (by omega), List.take_of_length_le (ofL_le _)]
  have h64 : ((partsL epoch num cs).1.all fun s => s.length == 64) = true := by
    rw [List.all_eq_true, h1]
    intro s hs
    rw [secL_len hs]
    rfl
  unfold frameS
  rw [htold, htk, hall, hr, if_neg (by rw [List.length_append]; omega), if_neg (by rw [h64]; decide), if_neg (by simp), if_pos rfl, hlen]
theorem frame_nil (ep k : Int) : frameS ep k [] = ([], 0) := by
  obtain ⟨l, c, he⟩ : ∃ l c, frameS ep k [] = (l, c) := ⟨_, _, rfl⟩
  have := frame_le (epoch := ep) (num := k) (ss := [])
  by_cases hc : c = 0
  · subst hc
    unfold frameS
    have : (readChgs (allP (List.take (toldL []) ([] : List (List UInt8))))).2 ≠ 0 := by
      rw [List.take_nil]
      exact readChgs_nil
    split
    · rfl
    · split
      · rfl
      · first | rfl | rw [if_pos this]
  · rw [he] at this
    simp at this
    exact (hc this).elim
theorem readF_stop {f : Nat} {ep : Int} {ss : List (List UInt8)} {k : Nat} (h : (frameS ep k ss).2 = 0) : readF f ep ss k = ([], 0) := by
  cases f with
  | zero => rfl
  | succ f => rw [readF, if_pos h]
theorem readF_made {f : Nat} {ep : Int} {cs : List Chg} {k : Nat} (h : (partsL ep k cs).2 = true) (hr : readChgs (chgsL cs) = (cs, 0)) (rest : List (List UInt8)) :
    readF (f + 1) ep ((partsL ep k cs).1 ++ rest) k = (cs :: (readF f ep rest (k + 1)).1, (partsL ep k cs).1.length + (readF f ep rest (k + 1)).2) := by
  have hm := made_frame h hr rest
  have hpos := chgsL_pieces cs
  rw [readF, hm, if_neg (by show ¬ (partsL ep k cs).1.length = 0; rw [parts_count h]; omega)]
  rw [List.drop_left' rfl]
theorem read_one {ep : Int} {cs : List Chg} (h : (partsL ep 0 cs).2 = true) (hr : readChgs (chgsL cs) = (cs, 0)) : readS ep (partsL ep 0 cs).1 = ([cs], (partsL ep 0 cs).1.length) := by
  have := readF_made (f := (partsL ep 0 cs).1.length) (k := 0) h hr []
  rw [List.append_nil, show ((0 : Nat) : Int) = (0 : Int) from rfl] at this
  unfold readS
  rw [this, readF_stop (by rw [frame_nil])]
  rfl
theorem wordL_inj {a b : Nat} (h : wordL a = wordL b) (ha : a < 4294967296) (hb : b < 4294967296) : a = b := by
  unfold wordL at h
  injection h with h1 h
  injection h with h2 h
  injection h with h3 h
  injection h with h4 _
  have e1 := congrArg UInt8.toNat h1
  have e2 := congrArg UInt8.toNat h2
  have e3 := congrArg UInt8.toNat h3
  have e4 := congrArg UInt8.toNat h4
  simp only [UInt8.toNat_ofNat'] at e1 e2 e3 e4
  omega
theorem part_head {ep n i of ep' n' i' of' : Nat} {p p' : List UInt8} (h : partL ep n i of p = partL ep' n' i' of' p') : wordL ep = wordL ep' ∧ wordL n = wordL n' := by
  have e : ∀ (ep n i of : Nat) (p : List UInt8), ∃ t, partL ep n i of p = wordL ep ++ (wordL n ++ t) := by
    intro ep n i of p
    refine ⟨_, show partL ep n i of p = wordL ep ++ (wordL n ++ ([UInt8.ofNat i, UInt8.ofNat of, UInt8.ofNat p.length] ++ (p ++ (List.replicate (60 - (headL ep n i of p).length) 0 ++ tailL (csum (pad60 (headL ep n i of p))))))) from ?_⟩
    unfold partL sealL
    rw [show pad60 (headL ep n i of p) = headL ep n i of p ++ List.replicate (60 - (headL ep n i of p).length) 0 from rfl]
    unfold headL
    simp only [List.append_assoc]
  obtain ⟨t, h1⟩ := e ep n i of p
  obtain ⟨t', h2⟩ := e ep' n' i' of' p'
  rw [h1, h2] at h
  have h3 := List.append_inj h (by rw [wordL_length, wordL_length])
  exact ⟨h3.1, (List.append_inj h3.2 (by rw [wordL_length, wordL_length])).1⟩
/-- What is read as a frame says its epoch and its number. -/
theorem frame_head {e2 n2 : Int} {ep n i of : Nat} {p : List UInt8} {rest : List (List UInt8)} (he : ep ≤ 1073741824) (hn : n ≤ 1073741824) (h : (frameS e2 n2 (partL ep n i of p :: rest)).2 ≠ 0) : e2 = ep ∧ n2 = n := by
  obtain ⟨g, _, h1, h2, h3, h4, _⟩ := frame_good (l := (frameS e2 n2 (partL ep n i of p :: rest)).1) rfl h
  have hg := (g.good 0 (by simp) (by have := g.lo; omega)).eq
  rw [List.getElem_cons_zero] at hg
  obtain ⟨p1, p2⟩ := part_head hg
  have q1 := wordL_inj p1 (by omega) (by omega)
  have q2 := wordL_inj p2 (by omega) (by omega)
  omega
theorem read_other {e2 epoch num : Int} {cs : List Chg} (h : (partsL epoch num cs).2 = true) (hne : e2 ≠ epoch ∨ num ≠ 0) : readS e2 (partsL epoch num cs).1 = ([], 0) := by
  obtain ⟨h1, h2, h3, h4, h5, h6⟩ := parts_of h
  obtain ⟨t, ht⟩ := secL_zero (ep := epoch.toNat) (n := num.toNat) (b := chgsL cs) (chgsL_pieces cs)
  unfold readS
  refine readF_stop (Classical.byContradiction fun hc => ?_)
  rw [h1, ht] at hc
  have := frame_head (by omega) (by omega) hc
  omega
/-- The chapter's example. -/
theorem ex_apply : applyL [] [(⟨#[97]⟩, [49], false)] = [(⟨#[97]⟩, [49])] := by rfl
theorem ex_back : readChgs (chgsL [(⟨#[97]⟩, [], true)]) = ([(⟨#[97]⟩, [], true)], 0) := by decide +kernel
theorem ex_parts : (partsL 1 0 [(⟨#[97]⟩, [], true)]).2 = true ∧ (partsL 1 0 [(⟨#[97]⟩, [], true)]).1.length = 1 := by
  have h : (partsL 1 0 [(⟨#[97]⟩, [], true)]).2 = true := by
    unfold partsL
    rw [if_neg (by omega), if_neg (by decide +kernel)]
  exact ⟨h, by rw [parts_count h]; decide +kernel⟩
end Go.Proofs.Ytomkbgghljcbfaa

/-
  The chapter's example of the log holds: known returns true.
-/
namespace Go.Proofs.Ytomkbgghljcbfaa
open Go.RowKit Go.Rst Go.Pg Go.Crc

theorem rc_lit1 (w : World) (k : ByteArray) (u : Value) (l : List UInt8) (g : Bool) (e : TypeId) (hu : RB w u l) : RC (w.alloc (.cells #[.string k, u, .bool g] e)) (.slice (some ⟨w.heap.size, 0, none⟩) 1 1) [(k, l, g)] := by
  have hc : ∀ i, (w.alloc (.cells #[.string k, u, .bool g] e)).cell? ⟨w.heap.size, i, none⟩ = (#[.string k, u, .bool g] : Array Value)[i]? :=
    fun i => cell_of_row _ _ i _ e (0, 0) (World.alloc_heap_new w _)
  refine ⟨_, 1, rfl, Nat.le_refl _, by decide, .inr ⟨w.heap.size, 0, rfl, by simp, fun j hj => ?_⟩⟩
  rw [hc, hc, hc]
  match j, hj with
  | 0, _ => exact ⟨rfl, ⟨_, rfl, hu.below ((Below.refl w.heap.size w).alloc (Nat.le_refl _) _)⟩, rfl⟩

set_option maxRecDepth 100000 in
set_option maxHeartbeats 1600000 in
theorem known_any (w : World) : Calls Try.prog 11 #[] w fun e w' => e = .returned (.bool true) ∧ Below w.heap.size w w' := by
  go_enter Try.func11, Try.ntmps11
  go_wp2_with fail
  rw [show Sem.run Try.prog (convert 23 23 (.slice (some { block := w.heap.size, off := 0 }) 1 1)) _ = _ from Go.Lib.run_convert_bytes_const w 23 5 #[.int .u8 49] 1 1 Try.underlying23 Try.underlying5]
  go_wp2_with fail
  have hrb : RB (w.alloc (.cells #[.int .u8 49] 5 (1, 2))) (.slice (some ⟨w.heap.size, 0, none⟩) 1 1) [49] := RB.lit w 5 (1, 2) [49] _ rfl 1 rfl (by decide)
  have hb0 := ((Below.refl w.heap.size w).alloc (Nat.le_refl _) (Obj.cells #[.int .u8 49] 5 (1, 2)))
  have hb1 := hb0.alloc hb0.size (Obj.cells #[.string ⟨#[97]⟩, .slice (some ⟨w.heap.size, 0, none⟩) 1 1, .bool false] 51)
  have hrc := rc_lit1 _ ⟨#[97]⟩ _ _ false 51 hrb
  rw [show (w.alloc (Obj.cells #[.int .u8 49] 5 (1, 2))).heap.size = w.heap.size + 1 by simp] at hrc
  generalize hW : (w.alloc (Obj.cells #[.int .u8 49] 5 (1, 2))).alloc (Obj.cells #[.string ⟨#[97]⟩, .slice (some ⟨w.heap.size, 0, none⟩) 1 1, .bool false] 51) = W at *
  have H0 := apply_any (.slice none 0 0) _ [] _ W (rr_nil W) List.Pairwise.nil hrc (by simp) (by simp) (by simp)
  rw [ex_apply] at H0
  refine H0.mono ?_
  rintro e w1 ⟨v1, rfl, ho1, hb2⟩
  have HB1 := Lib.hid (hb1.trans (hb2.mono hb1.size))
  have H1 := Lib.hid (diff_any _ _ _ _ w1 ho1.rr (rr_nil w1) (by simp) (by simp) (by simp))
  rw [show diffL [(⟨#[97]⟩, [49])] [] = [(⟨#[97]⟩, [], true)] by rw [diff_nil]; rfl] at H1
  obtain ⟨g1, cap1, u1, hsh1, hgl1, hk0, hk1, hfb1⟩ := or_row ho1 (j := 0) (by simp)
  subst hsh1
  clear H0 hrc hrb hb0 hb1 hb2 ho1 hk1 hfb1
  go_wp2_with fail
  refine H1.out.mono ?_
  rintro e w2 ⟨v2, rfl, ho2, hb2⟩
  have HB2 := Lib.hid (HB1.out.trans (hb2.mono HB1.out.size))
  have H2 := Lib.hid (parts_any 1 0 _ _ w2 ho2.rc (by decide +kernel) (by simp) (by simp))
  have hka := (hb2.cell (p := ⟨g1, 0 * 2, none⟩) hgl1).trans hk0
  obtain ⟨A2, c2, rfl, hl2, hm2, hx⟩ := ho2.rc
  rcases hx with hx | ⟨b2, off2, rfl, hbw2, hc2⟩
  · simp at hx
  obtain ⟨_, _, hx2⟩ := hc2 0 (by simp)
  clear H1 ho2 hk0
  go_wp2_with fail
  refine H2.out.mono ?_
  rintro e w3 ⟨v3, rfl, ho3, hb3⟩
  have HB3 := Lib.hid (HB2.out.trans (hb3.mono HB2.out.size))
  rw [ex_parts.1]
  have hlen := ex_parts.2
  have H3 := readP_any 1 _ _ w3 ho3.rp (by rw [hlen]; decide)
  rw [read_one ex_parts.1 ex_back] at H3
  have H3 := Lib.hid H3
  have hka2 := (hb3.cell (p := ⟨g1, 0 * 2, none⟩) (Nat.lt_of_lt_of_le hgl1 hb2.size)).trans hka
  have hg2 := (hb3.cell (p := ⟨b2, off2 + 0 * 3 + 2, none⟩) hbw2).trans hx2
  have hsz3 := hb3.size
  have hsz2 := hb2.size
  obtain ⟨A3, c3, rfl, _, _⟩ := ho3.shape
  generalize (partsL 1 0 [(⟨#[97]⟩, [], true)]).1 = ps at *
  clear H2 ho3 hka hx2 hb2 hc2
  rw [hlen] at H3 ⊢
  go_wp2_with fail
  refine H3.out.mono ?_
  rintro e w4 ⟨v4, rfl, ho4, hb4⟩
  obtain ⟨A4, c4, rfl, _, _⟩ := ho4.shape
  have HB4 := Lib.hid (HB3.out.trans (hb4.mono HB3.out.size))
  have hka3 := (hb4.cell (p := ⟨g1, 0 * 2, none⟩) (by show g1 < _; omega)).trans hka2
  have hg3 := (hb4.cell (p := ⟨b2, off2 + 0 * 3 + 2, none⟩) (by show b2 < _; omega)).trans hg2
  clear hka2 hg2 ho4 hb3 hb4
  go_wp2
  go_ret
  exact ⟨rfl, HB4.out⟩
end Go.Proofs.Ytomkbgghljcbfaa
