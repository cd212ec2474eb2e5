/-
  Plain mathematics of the log: how frames are read. No program.
-/
import Derived.Test.YtomkbgghljcbfaaLMath
import Derived.Test.YtomkbgghljcbfaaGBack
import Derived.Test.YtomkbgghljcbfaaGPg
import Derived.Test.YtomkbgghljcbfaaGChg
import Derived.RangeFuncBox
import Derived.Test.YtomkbgghljcbfaaCEqual
set_option linter.unusedVariables false

namespace Go.Proofs.Ytomkbgghljcbfaa
open Go.RowKit Go.Rst Go.Crc

def b9 (s : List UInt8) : Nat := (s.getD 9 0).toNat
def b10 (s : List UInt8) : Nat := (s.getD 10 0).toNat
def toldL : List (List UInt8) → Nat
  | [] => 0
  | s :: _ => if s.length = 64 then b9 s else 0
def pieceP (s : List UInt8) : List UInt8 := (s.drop 11).take (min (b10 s) 49)
def allP (ss : List (List UInt8)) : List UInt8 := ss.flatMap pieceP
/-- A frame at the front of some sectors, as the program reads it. -/
def frameS (ep n : Int) (ss : List (List UInt8)) : List Chg × Nat :=
  if ss.length < toldL ss then ([], 0)
  else if (ss.take (toldL ss)).all (fun s => s.length == 64) = false then ([], 0)
  else if (readChgs (allP (ss.take (toldL ss)))).2 ≠ 0 then ([], 0)
  else if (partsL ep n (readChgs (allP (ss.take (toldL ss)))).1).1 = ss.take (toldL ss) then ((readChgs (allP (ss.take (toldL ss)))).1, toldL ss)
  else ([], 0)
/-- A sector that is one of a frame's. -/
structure GoodS (ep n : Nat) (s : List UInt8) (j of : Nat) : Prop where
  len : s.length = 64
  lo : 1 ≤ b10 s
  hi : b10 s ≤ 49
  eq : s = partL ep n j of (pieceP s)
  full : j + 1 < of → b10 s = 49
structure GoodF (ep n : Nat) (ss : List (List UInt8)) (of : Nat) : Prop where
  told : of = toldL ss
  lo : 1 ≤ of
  hi : of ≤ 200
  le : of ≤ ss.length
  good : ∀ j (h : j < ss.length), j < of → GoodS ep n ss[j] j of
theorem pieceP_len {s : List UInt8} (h : s.length = 64) (h2 : b10 s ≤ 49) : (pieceP s).length = b10 s := by
  unfold pieceP
  rw [List.length_take, List.length_drop, h]
  omega
theorem part_bytes {ep n i of : Nat} {p : List UInt8} (hp : p.length ≤ 49) (hof : of ≤ 255) :
    b9 (partL ep n i of p) = of ∧ b10 (partL ep n i of p) = p.length ∧ pieceP (partL ep n i of p) = p := by
  have e : partL ep n i of p = wordL ep ++ (wordL n ++ ([UInt8.ofNat i, UInt8.ofNat of, UInt8.ofNat p.length] ++ (p ++ (List.replicate (60 - (headL ep n i of p).length) 0 ++ tailL (csum (pad60 (headL ep n i of p))))))) := by
    unfold partL sealL
    rw [show pad60 (headL ep n i of p) = headL ep n i of p ++ List.replicate (60 - (headL ep n i of p).length) 0 from rfl]
    unfold headL
    simp only [List.append_assoc]
  have h9 : b9 (partL ep n i of p) = of := by
    unfold b9
    rw [e]
    simp only [wordL, List.cons_append, List.nil_append, List.getD_cons_succ, List.getD_cons_zero, UInt8.toNat_ofNat']
    omega
  have h10 : b10 (partL ep n i of p) = p.length := by
    unfold b10
    rw [e]
    simp only [wordL, List.cons_append, List.nil_append, List.getD_cons_succ, List.getD_cons_zero, UInt8.toNat_ofNat']
    omega
  refine ⟨h9, h10, ?_⟩
  unfold pieceP
  rw [h10, Nat.min_eq_left hp, e]
  simp only [wordL, List.cons_append, List.nil_append, List.drop_succ_cons, List.drop_zero]
  rw [List.take_left' rfl]
theorem told_take {ss : List (List UInt8)} {k : Nat} (h : 0 < k) : toldL (ss.take k) = toldL ss := by
  cases ss with
  | nil => rw [List.take_nil]
  | cons s ss =>
    obtain ⟨k, rfl⟩ : ∃ j, k = j + 1 := ⟨k - 1, by omega⟩
    rw [List.take_succ_cons]
    rfl
theorem allP_take {ss : List (List UInt8)} {k : Nat} (h : k < ss.length) : allP (ss.take (k + 1)) = allP (ss.take k) ++ pieceP ss[k] := by
  unfold allP
  rw [List.take_succ_eq_append_getElem h, List.flatMap_append]
  simp
section
variable {ep n of : Nat} {ss : List (List UInt8)}
theorem good_len (h : GoodF ep n ss of) : ∀ k, k < of → (allP (ss.take k)).length = 49 * k := by
  intro k
  induction k with
  | zero => intro _; simp [allP]
  | succ k ih =>
    intro hk
    have hkl : k < ss.length := by have := h.le; omega
    have g := h.good k hkl (by omega)
    rw [allP_take hkl, List.length_append, ih (by omega), pieceP_len g.len g.hi, g.full (by omega)]
    omega
theorem good_all (h : GoodF ep n ss of) : ∃ r, 1 ≤ r ∧ r ≤ 49 ∧ (allP (ss.take of)).length = 49 * (of - 1) + r := by
  have hlo := h.lo
  obtain ⟨k, rfl⟩ : ∃ k, of = k + 1 := ⟨of - 1, by omega⟩
  have hkl : k < ss.length := by have := h.le; omega
  have g := h.good k hkl (by omega)
  refine ⟨b10 ss[k], g.lo, g.hi, ?_⟩
  rw [allP_take hkl, List.length_append, good_len h k (by omega), pieceP_len g.len g.hi]
  omega
theorem good_of (h : GoodF ep n ss of) : ofL (allP (ss.take of)) = of := by
  obtain ⟨r, h1, h2, h3⟩ := good_all h
  have := h.lo
  unfold ofL
  rw [h3]
  omega
theorem good_pc (h : GoodF ep n ss of) {j : Nat} (hj : j < of) (hjl : j < ss.length) : pcL (allP (ss.take of)) j = pieceP ss[j] := by
  have e : ss.take of = ss.take j ++ (ss[j] :: (ss.drop (j + 1)).take (of - (j + 1))) := by
    rw [show of = j + (of - j) by omega, List.take_add, List.drop_eq_getElem_cons hjl, show of - j = (of - (j + 1)) + 1 by omega, List.take_succ_cons]
    congr 3
    omega
  have g := h.good j hjl hj
  unfold pcL
  rw [e]
  unfold allP
  rw [List.flatMap_append, List.flatMap_cons, List.drop_left' (show (List.flatMap pieceP (ss.take j)).length = 49 * j from good_len h j hj)]
  by_cases hl : j + 1 < of
  · rw [List.take_left' (by rw [pieceP_len g.len g.hi, g.full hl])]
  · rw [show of - (j + 1) = 0 by omega, List.take_zero, List.flatMap_nil, List.append_nil, List.take_of_length_le (by rw [pieceP_len g.len g.hi]; exact g.hi)]
theorem good_sec (h : GoodF ep n ss of) : secL ep n (allP (ss.take of)) of = ss.take of := by
  refine List.ext_getElem (by rw [secL_length, List.length_take]; have := h.le; omega) (fun j h1 h2 => ?_)
  rw [secL_length] at h1
  have hjl : j < ss.length := by have := h.le; omega
  simp only [secL, List.getElem_map, List.getElem_range, List.getElem_take]
  rw [good_of h, good_pc h h1 hjl]
  exact (h.good j hjl h1).eq.symm
theorem good_frame (h : GoodF ep n ss of) (hep : ep ≤ 1073741824) (hn : n ≤ 1073741824) (he : (readChgs (allP (ss.take of))).2 = 0) : frameS ep n ss = ((readChgs (allP (ss.take of))).1, of) := by
  have hf := readChgs_fwd (l := allP (ss.take of)) (cs := (readChgs (allP (ss.take of))).1) (by rw [← he])
  have hle := h.le
  have hhi := h.hi
  have hall : ((ss.take of).all fun s => s.length == 64) = true := by
    rw [List.all_eq_true]
    intro s hs
    obtain ⟨j, hj, rfl⟩ := List.getElem_of_mem hs
    rw [List.length_take] at hj
    rw [List.getElem_take, (h.good j (by omega) (by omega)).len]
    rfl
  have hpt : (partsL ep n (readChgs (allP (ss.take of))).1).1 = ss.take of := by
    unfold partsL
    rw [if_neg (by omega), hf, good_of h, if_neg (by omega)]
    exact good_sec h
  unfold frameS
  rw [← h.told, if_neg (by omega), if_neg (by rw [hall]; decide), if_neg (by rw [he]; simp), if_pos hpt]
theorem frame_err (h : GoodF ep n ss of) (he : (readChgs (allP (ss.take of))).2 ≠ 0) : frameS ep n ss = ([], 0) := by
  unfold frameS
  rw [← h.told]
  split
  · rfl
  · split
    · rfl
    · first | rfl | rw [if_pos he]
theorem parts_secs {epoch num : Int} {cs : List Chg} (h : (partsL epoch num cs).1 ≠ []) : (partsL epoch num cs).1 = secL epoch.toNat num.toNat (chgsL cs) (ofL (chgsL cs)) ∧ ofL (chgsL cs) ≤ 200 ∧ 0 ≤ epoch ∧ epoch ≤ 1073741824 ∧ 0 ≤ num ∧ num ≤ 1073741824 := by
  unfold partsL at h ⊢
  split at h
  · exact (h rfl).elim
  · split at h
    · exact (h rfl).elim
    · rename_i h1 h2
      rw [if_neg h1, if_neg h2]
      exact ⟨rfl, by omega, by omega, by omega, by omega, by omega⟩
theorem readChgs_nil : (readChgs []).2 ≠ 0 := by
  have : getNum [] 0 = (0, 0, 10) := by unfold getNum gnumF; simp
  unfold readChgs
  rw [this]
  simp
/-- What is read as a frame is one. -/
theorem frame_good {epoch num : Int} {l : List Chg} {c : Nat} (h : frameS epoch num ss = (l, c)) (hc : c ≠ 0) :
    GoodF epoch.toNat num.toNat ss c ∧ (readChgs (allP (ss.take c))) = (l, 0) ∧ 0 ≤ epoch ∧ epoch ≤ 1073741824 ∧ 0 ≤ num ∧ num ≤ 1073741824 ∧ chgsL l = allP (ss.take c) := by
  unfold frameS at h
  split at h
  · injection h with _ h; exact (hc h.symm).elim
  · rename_i h1
    split at h
    · injection h with _ h; exact (hc h.symm).elim
    · rename_i h2
      split at h
      · injection h with _ h; exact (hc h.symm).elim
      · rename_i h3
        split at h
        · rename_i h4
          injection h with hl hcc
          subst hcc
          have hre : readChgs (allP (ss.take (toldL ss))) = (l, 0) := by rw [← hl]; exact Prod.ext rfl (by simpa using h3)
          have hf := readChgs_fwd hre
          rw [hl] at h4
          have hne : (partsL epoch num l).1 ≠ [] := by
            rw [h4]
            intro e
            have := congrArg List.length e
            rw [List.length_take, List.length_nil] at this
            omega
          obtain ⟨p1, p2, p3, p4, p5, p6⟩ := parts_secs hne
          rw [p1, hf] at h4
          rw [hf] at p2
          have hlen := congrArg List.length h4
          rw [secL_length, List.length_take, Nat.min_eq_left (by omega)] at hlen
          have hgood : ∀ j (hj : j < ss.length), j < toldL ss → GoodS epoch.toNat num.toNat ss[j] j (toldL ss) := by
            intro j hj hjt
            have e : ss[j] = partL epoch.toNat num.toNat j (toldL ss) (pcL (allP (ss.take (toldL ss))) j) := by
              have h5 : (secL epoch.toNat num.toNat (allP (ss.take (toldL ss))) (ofL (allP (ss.take (toldL ss)))))[j]'(by rw [secL_length]; omega) = (ss.take (toldL ss))[j]'(by rw [List.length_take]; omega) := by simp only [h4]
              rw [List.getElem_take] at h5
              rw [← h5]
              simp only [secL, List.getElem_map, List.getElem_range]
              rw [hlen]
            have hpl := pcL_length (allP (ss.take (toldL ss))) j
            have hof : ofL (allP (ss.take (toldL ss))) = ((allP (ss.take (toldL ss))).length + 48) / 49 := rfl
            obtain ⟨e1, e2, e3⟩ := part_bytes (ep := epoch.toNat) (n := num.toNat) (i := j) (of := toldL ss) (p := pcL (allP (ss.take (toldL ss))) j) (by omega) (by omega)
            rw [← e] at e1 e2 e3
            exact ⟨by rw [e]; exact partL_length (by omega), by omega, by omega, by rw [e3]; exact e, fun hf => by omega⟩
          exact ⟨⟨rfl, by omega, by omega, by omega, hgood⟩, hre, p3, p4, p5, p6, hf⟩
        · injection h with _ h; exact (hc h.symm).elim
theorem frame_not (h : ¬ GoodF ep n ss (toldL ss)) : frameS ep n ss = ([], 0) := by
  obtain ⟨l, c, he⟩ : ∃ l c, frameS ep n ss = (l, c) := ⟨_, _, rfl⟩
  by_cases hc : c = 0
  · subst hc
    rw [he]
    unfold frameS at he
    split at he
    · exact he.symm
    · split at he
      · exact he.symm
      · split at he
        · exact he.symm
        · rename_i h3
          split at he
          · injection he with _ h0
            rw [h0, List.take_zero] at h3
            exact (h3 readChgs_nil).elim
          · exact he.symm
  · obtain ⟨g, _⟩ := frame_good he hc
    have := g.told
    simp only [Int.toNat_natCast] at g
    rw [← this] at h
    exact (h g).elim
end
theorem frame_out {epoch num : Int} (h : epoch < 0 ∨ 1073741824 < epoch ∨ num < 0 ∨ 1073741824 < num) (ss : List (List UInt8)) : frameS epoch num ss = ([], 0) := by
  obtain ⟨l, c, he⟩ : ∃ l c, frameS epoch num ss = (l, c) := ⟨_, _, rfl⟩
  by_cases hc : c = 0
  · subst hc
    rw [he]
    unfold frameS at he
    split at he
    · exact he.symm
    · split at he
      · exact he.symm
      · split at he
        · exact he.symm
        · rename_i h3
          split at he
          · injection he with _ h0
            rw [h0, List.take_zero] at h3
            exact (h3 readChgs_nil).elim
          · exact he.symm
  · obtain ⟨_, _, h1, h2, h3, h4, _⟩ := frame_good he hc
    omega
theorem frame_le {epoch num : Int} {ss : List (List UInt8)} : (frameS epoch num ss).2 ≤ ss.length := by
  by_cases hc : (frameS epoch num ss).2 = 0
  · omega
  · exact (frame_good (l := (frameS epoch num ss).1) (c := (frameS epoch num ss).2) rfl hc).1.le
/-- All frames at the front of some sectors, numbered from k on. -/
def readF : Nat → Int → List (List UInt8) → Nat → List (List Chg) × Nat
  | 0, _, _, _ => ([], 0)
  | f + 1, ep, ss, k => if (frameS ep k ss).2 = 0 then ([], 0) else
    ((frameS ep k ss).1 :: (readF f ep (ss.drop (frameS ep k ss).2) (k + 1)).1, (frameS ep k ss).2 + (readF f ep (ss.drop (frameS ep k ss).2) (k + 1)).2)
def readS (ep : Int) (ss : List (List UInt8)) : List (List Chg) × Nat := readF (ss.length + 1) ep ss 0
/-- Values of changes that were read are short. -/
theorem getChange_val (l : List UInt8) (p : Int) : (getChange l p).2.1.length ≤ 150 := by
  have h2 := getText_spec l ((getText l p 30).2.1 + 1) 150
  unfold getChange
  split
  · simp
  · split
    · simp
    · split
      · simp
      · split
        · simp
        · split
          · simp
          · rename_i h
            simp only
            rcases h2 with h2 | h2
            · have := h2.2.2.2.2.2; omega
            · exact absurd h2.1 (by intro hh; rcases hh with hh | hh <;> omega)
theorem chgsF_val (l : List UInt8) : ∀ (f : Nat) (q : Int) (acc : List Chg), (∀ c ∈ acc, c.2.1.length ≤ 150) → ∀ c ∈ (chgsF l f q acc).1, c.2.1.length ≤ 150
  | 0, q, acc, h, c, hc => by
    unfold chgsF at hc
    split at hc
    · cases hc
    · exact h c hc
  | f + 1, q, acc, h, c, hc => by
    unfold chgsF at hc
    split at hc
    · cases hc
    · refine chgsF_val l f _ _ (fun d hd => ?_) c hc
      rcases List.mem_append.1 hd with hd | hd
      · exact h d hd
      · simp only [List.mem_singleton] at hd
        subst hd
        exact getChange_val l q
theorem readChgs_val (l : List UInt8) : ∀ c ∈ (readChgs l).1, c.2.1.length ≤ 150 := by
  unfold readChgs
  split
  · intro c hc; cases hc
  · split
    · intro c hc; cases hc
    · exact chgsF_val l _ _ _ (fun c hc => by cases hc)
theorem chgL_pos (c : Chg) : 1 ≤ (chgL c).length := by
  have := numL_pos c.1.data.toList.length
  unfold chgL textL
  split <;> simp only [List.length_append] <;> omega
theorem chgsB_pos : ∀ cs : List Chg, cs.length ≤ (chgsB cs).length
  | [] => Nat.le_refl _
  | c :: cs => by
    have h1 := chgL_pos c
    have h2 := chgsB_pos cs
    have e : chgsB (c :: cs) = chgL c ++ chgsB cs := by unfold chgsB; rw [List.flatMap_cons]
    rw [e, List.length_append, List.length_cons]
    omega
theorem readChgs_few {l : List UInt8} {cs : List Chg} (h : readChgs l = (cs, 0)) : (chgsB cs).length ≤ l.length ∧ cs.length ≤ l.length := by
  have h1 := readChgs_fwd h
  have h2 := chgsB_pos cs
  have h3 := congrArg List.length h1
  unfold chgsL at h3
  rw [List.length_append] at h3
  omega
theorem allP_len : ∀ ss : List (List UInt8), (allP ss).length ≤ 49 * ss.length
  | [] => by simp [allP]
  | s :: ss => by
    have ih := allP_len ss
    have e : allP (s :: ss) = pieceP s ++ allP ss := by unfold allP; rw [List.flatMap_cons]
    have h : (pieceP s).length ≤ 49 := by unfold pieceP; rw [List.length_take]; omega
    rw [e, List.length_append, List.length_cons]
    omega
end Go.Proofs.Ytomkbgghljcbfaa

/-
  Words on frames that lie in memory: a slice of slices of changes; the mathematics of reading on. No program but the seat's types.
-/
namespace Go.Proofs.Ytomkbgghljcbfaa
open Go.RowKit Go.Rst Go.Crc
theorem info22 : (Try.prog.info? 22).map (fun i => (i.zero, i.size, i.bytes)) = some (some (.slice none 0 0), 1, 24) := by kernel_rfl
/-- A slice that reads as frames. -/
def RF (w : World) (v : Value) (fs : List (List Chg)) : Prop :=
  ∃ A c, v = .slice A fs.length c ∧ fs.length ≤ c ∧ c ≤ maxLen ∧ (fs = [] ∨ ∃ b off, A = some ⟨b, off, none⟩ ∧ b < w.heap.size ∧ ∀ j (h : j < fs.length), ∃ u, w.cell? ⟨b, off + j, none⟩ = some u ∧ RC w u fs[j])
/-- Frames of the call's own. -/
def OF (w : World) (base : Nat) (v : Value) (fs : List (List Chg)) : Prop :=
  ∃ us : List (List Chg × Value), us.map (·.1) = fs ∧ w.ownsRow base 22 1 v us.length (us.map (·.2)) ∧ ∀ x ∈ us, OC 5 51 w base x.2 x.1
theorem OF.nil_ (w : World) (base : Nat) : OF w base (.slice none 0 0) [] := ⟨[], rfl, World.ownsRow_nil _ _ _ _, fun _ h => by cases h⟩
theorem OF.rf {w : World} {base : Nat} {v : Value} {fs : List (List Chg)} (h : OF w base v fs) : RF w v fs := by
  obtain ⟨us, rfl, ho, hf⟩ := h
  rcases ho.2 with ⟨rfl, h0⟩ | ⟨g, cap, cur, rfl, hb, hg, hnc, hcm, hcs, ht⟩
  · have : us = [] := List.eq_nil_of_length_eq_zero h0
    subst this
    exact ⟨none, 0, rfl, Nat.le_refl _, Nat.zero_le _, .inl rfl⟩
  · refine ⟨some ⟨g, 0, none⟩, cap, by rw [List.length_map], by rw [List.length_map]; exact hnc, hcm, .inr ⟨g, 0, rfl, (Array.getElem?_eq_some_iff.1 hg).1, fun j hj => ?_⟩⟩
    rw [List.length_map] at hj
    have hc := ho.cells (g := g) rfl j us[j].2 (by simp [hj])
    rw [Addr.add_lit] at hc
    refine ⟨us[j].2, hc, ?_⟩
    have := (hf us[j] (List.getElem_mem hj)).rc
    simpa using this
theorem OF.shape {w : World} {base : Nat} {v : Value} {fs : List (List Chg)} (h : OF w base v fs) : ∃ A c, v = .slice A fs.length c ∧ (c : Int) ≤ 9223372036854775807 ∧ fs.length ≤ c := by
  obtain ⟨A, c, h, h1, h2, _⟩ := h.rf
  refine ⟨A, c, h, ?_, h1⟩
  unfold maxLen at h2; omega
theorem OF.below {w w' : World} {base : Nat} {v : Value} {fs : List (List Chg)} (h : OF w base v fs) (hb : Below w.heap.size w w') : OF w' base v fs := by
  obtain ⟨us, h1, ho, hf⟩ := h
  exact ⟨us, h1, own_below ho hb, fun x hx => (hf x hx).below hb⟩
theorem OF.base_ {w : World} {base base' : Nat} {v : Value} {fs : List (List Chg)} (h : OF w base v fs) (hb : base' ≤ base) : OF w base' v fs := by
  obtain ⟨us, h1, ho, hf⟩ := h
  exact ⟨us, h1, own_base ho hb, fun x hx => (hf x hx).base_ hb⟩
theorem oc_grown {e eR e' : TypeId} {w w' : World} {base base' size m : Nat} {v r : Value} {cs : List Chg} {ys : List Value} (h : OC e eR w base v cs) (hr : w.ownsRow base' e' size r m ys) (h1 : e ≠ e') (h2 : eR ≠ e')
    (hg : w.grownBy w' r.ownBlock) : OC e eR w' base v cs := by
  obtain ⟨us, hu, ho, hf⟩ := h
  exact ⟨us, hu, own_grown ho hr h2 hg, fun x hx => (hf x hx).grown hr h1 hg⟩
theorem OF.push {w w' : World} {base : Nat} {v v' u : Value} {us : List (List Chg × Value)} {l : List Chg}
    (ho : w.ownsRow base 22 1 v us.length (us.map (·.2))) (hf : ∀ x ∈ us, OC 5 51 w base x.2 x.1) (hu : OC 5 51 w base u l)
    (ho' : w'.ownsRow base 22 1 v' (us.length + 1) (us.map (·.2) ++ [u])) (hg : w.grownBy w' v.ownBlock) : OF w' base v' (us.map (·.1) ++ [l]) := by
  refine ⟨us ++ [(l, u)], by simp, by rw [List.map_append, List.length_append]; exact ho', fun x hx => ?_⟩
  rcases List.mem_append.1 hx with hx | hx
  · exact oc_grown (hf x hx) ho (by decide) (by decide) hg
  · simp at hx
    subst hx
    exact oc_grown hu ho (by decide) (by decide) hg
theorem rf_at {w : World} {A : Option Addr} {n c : Nat} {fs : List (List Chg)} (h : RF w (.slice A n c) fs) {k : Nat} (hk : k < fs.length) :
    ∃ b off u, A = some ⟨b, off, none⟩ ∧ b < w.heap.size ∧ w.cell? ⟨b, off + k, none⟩ = some u ∧ RC w u fs[k] := by
  obtain ⟨A', c', he, _, _, h3⟩ := h
  injection he with e1 _ _
  subst e1
  rcases h3 with rfl | ⟨b, off, rfl, hb, hc⟩
  · simp at hk
  · obtain ⟨u, h1, h2⟩ := hc k hk
    exact ⟨b, off, u, rfl, hb, h1, h2⟩
theorem rp_cut {X : World} {A : Option Addr} {n c : Nat} {ps : List (List UInt8)} (h : RP X (.slice A n c) ps) {K : Nat} (hK : K ≤ n) :
    RP X (.slice (if c = K then A else Option.map (fun x => x.add K) A) (n - K) (c - K)) (ps.drop K) := by
  obtain ⟨A', c', he, h1, h2, h3⟩ := h
  injection he with e1 e2 e3
  subst e1
  subst e3
  subst e2
  have hl : (ps.drop K).length = ps.length - K := List.length_drop
  by_cases hd : ps.length ≤ K
  · rw [List.drop_eq_nil_of_le hd]
    exact ⟨_, _, by rw [show ps.length - K = 0 from by omega]; rfl, Nat.zero_le _, by omega, .inl rfl⟩
  · have hck : ¬ c = K := by omega
    rw [if_neg hck]
    rcases h3 with rfl | ⟨b, off, rfl, hb, hc⟩
    · simp at hd
    · refine ⟨some ⟨b, off + K, none⟩, c - K, by rw [hl]; simp only [Option.map_some, Addr.add_lit], by rw [hl]; omega, by omega, .inr ⟨b, off + K, rfl, hb, fun j hj => ?_⟩⟩
      rw [hl] at hj
      obtain ⟨u, h4, h5⟩ := hc (K + j) (by omega)
      exact ⟨u, by rw [Nat.add_assoc]; exact h4, by rw [List.getElem_drop]; exact h5⟩
/-- What is left to be read. -/
def Left (ep : Int) (ss : List (List UInt8)) (R : List (List Chg) × Nat) (fs : List (List Chg)) (at_ : Nat) : Prop :=
  at_ ≤ ss.length ∧ ∃ f, ss.length - at_ < f ∧ R = (fs ++ (readF f ep (ss.drop at_) fs.length).1, at_ + (readF f ep (ss.drop at_) fs.length).2)
theorem Left.start (ep : Int) (ss : List (List UInt8)) : Left ep ss (readS ep ss) [] 0 := ⟨Nat.zero_le _, ss.length + 1, by omega, by unfold readS; simp⟩
theorem Left.stop {ep : Int} {ss : List (List UInt8)} {R : List (List Chg) × Nat} {fs : List (List Chg)} {at_ : Nat} (h : Left ep ss R fs at_) (h0 : (frameS ep fs.length (ss.drop at_)).2 = 0) : R = (fs, at_) := by
  obtain ⟨_, f, hf, hR⟩ := h
  obtain ⟨f, rfl⟩ : ∃ j, f = j + 1 := ⟨f - 1, by omega⟩
  rw [hR, readF, if_pos h0]
  simp
theorem Left.next {ep : Int} {ss : List (List UInt8)} {R : List (List Chg) × Nat} {fs : List (List Chg)} {at_ : Nat} (h : Left ep ss R fs at_) (h0 : (frameS ep fs.length (ss.drop at_)).2 ≠ 0) :
    Left ep ss R (fs ++ [(frameS ep fs.length (ss.drop at_)).1]) (at_ + (frameS ep fs.length (ss.drop at_)).2) := by
  obtain ⟨hle, f, hf, hR⟩ := h
  have hl := frame_le (epoch := ep) (num := fs.length) (ss := ss.drop at_)
  rw [List.length_drop] at hl
  obtain ⟨f, rfl⟩ : ∃ j, f = j + 1 := ⟨f - 1, by omega⟩
  refine ⟨by omega, f, by omega, ?_⟩
  rw [hR, readF, if_neg h0, List.drop_drop, List.length_append, List.length_singleton]
  simp only [List.append_assoc, List.cons_append, List.nil_append, Nat.add_assoc]
end Go.Proofs.Ytomkbgghljcbfaa

/-
  The contract of slices.EqualFunc of pages, with bytes.Equal.
-/
namespace Go.Proofs.Ytomkbgghljcbfaa
open Go.RowKit Go.Rst Go.Crc
abbrev eqVal : Value := .func (.func 40) #[] #[]

set_option maxRecDepth 100000 in
set_option maxHeartbeats 1600000 in
theorem eqF_any (va vb : Value) (ps qs : List (List UInt8)) (w : World) (ha : RP w va ps) (hb : RP w vb qs) :
    Calls Try.prog 63 #[va, vb, eqVal] w fun e w' => e = .returned (.bool (decide (ps = qs))) ∧ w = w' := by
  have HA := Lib.hid ha
  have HB := Lib.hid hb
  obtain ⟨A1, c1, rfl, hl1, hc1, _⟩ := ha
  obtain ⟨A2, c2, rfl, hl2, hc2, _⟩ := hb
  unfold maxLen at hc1 hc2
  by_cases hlen : ps.length = qs.length
  · have hbne : ((ps.length : Int) != (qs.length : Int)) = false := by simp [hlen]
    have HL := Lib.hid hlen
    clear hlen
    go_enter Try.func63, Try.ntmps63
    go_wp2
    go_loopw [17] (fun i wr => ∃ k : Nat, k ≤ ps.length ∧ i = .int .i64 k ∧ ps.take k = qs.take k ∧ w = wr) (fun i _ => ps.length - (intOf i).toNat)
    case atStart => exact ⟨0, Nat.zero_le _, rfl, rfl, rfl⟩
    case round =>
      obtain ⟨k, hk, rfl, htk, rfl⟩ := hrel
      have HTK := Lib.hid htk
      clear htk
      by_cases hlt : k < ps.length
      · have hlq : k < qs.length := by rw [← HL.out]; exact hlt
        obtain ⟨b1, o1, u1, rfl, hb1, hx1, hr1⟩ := rp_at HA.out hlt
        obtain ⟨b2, o2, u2, rfl, hb2, hx2, hr2⟩ := rp_at HB.out hlq
        have hcall := equal_any u1 u2 _ _ w hr1 hr2
        obtain ⟨A3, c3, hu1, _⟩ := hr1
        obtain ⟨A4, c4, hu2, _⟩ := hr2
        obtain ⟨n1, hn1⟩ : ∃ n, n = ps[k].length := ⟨_, rfl⟩
        obtain ⟨n2, hn2⟩ : ∃ n, n = qs[k].length := ⟨_, rfl⟩
        rw [← hn1] at hu1
        rw [← hn2] at hu2
        subst hu1
        subst hu2
        have q1 : (0 : Int) ≤ (k : Int) := by omega
        have q2 : (k : Int) < ps.length := by omega
        have q3 : (k : Int) < qs.length := by omega
        cases he : (ps[k] == qs[k]) with
        | false =>
          rw [he] at hcall
          have E := Lib.hid (show decide (ps = qs) = false by
            rw [decide_eq_false_iff_not]
            intro h
            have : ps[k] = qs[k] := by simp only [h]
            rw [this] at he
            simp at he)
          have HC := Lib.hid hcall
          clear hcall he hn1 hn2
          go_wp2_with fail
          refine HC.out.mono ?_
          rintro e w' ⟨rfl, rfl⟩
          go_wp2
          go_ret
          rw [E.out]
          exact ⟨rfl, rfl⟩
        | true =>
          rw [he] at hcall
          have HE := Lib.hid (show ps.take (k + 1) = qs.take (k + 1) by
            rw [List.take_succ_eq_append_getElem hlt, List.take_succ_eq_append_getElem hlq, HTK.out, eq_of_beq he])
          have HC := Lib.hid hcall
          clear hcall he hn1 hn2
          go_wp2_with fail
          refine HC.out.mono ?_
          rintro e w' ⟨rfl, rfl⟩
          go_wp2
          go_roundw
          case rel => exact ⟨k + 1, by omega, by go_num, HE.out, by first | rfl | trivial⟩
          case measure => simp [intOf]; omega
      · obtain rfl : k = ps.length := by omega
        have E := Lib.hid (show decide (ps = qs) = true by
          rw [decide_eq_true_iff]
          have := HTK.out
          rw [List.take_length, HL.out, List.take_length] at this
          exact this)
        go_wp2
        go_ret
        rw [E.out]
        exact ⟨rfl, rfl⟩
  · have hbne : ((ps.length : Int) != (qs.length : Int)) = true := by simp; omega
    have E := Lib.hid (show decide (ps = qs) = false by
      rw [decide_eq_false_iff_not]
      intro h
      exact hlen (by rw [h]))
    clear hlen
    go_enter Try.func63, Try.ntmps63
    go_wp2
    go_ret
    rw [E.out]
    exact ⟨rfl, rfl⟩
end Go.Proofs.Ytomkbgghljcbfaa
