/-
  CodeMany returns true, and changes nothing that was there, for every three bytes.
-/
import Derived.Test.YtjanggdjbieceaaTakeC2
import Derived.Test.YtjanggdjbieceaaKnown
namespace Go.Proofs.Ytjanggdjbieceaa
open Go.RowKit Go.Rst

/-- make([]byte, n): that many noughts. -/
theorem wpList_noughts {P : Program} {w : World} {ops : Array Oper} {rest : List Oper} {o : Oper} {a : Act} {Q : Exit → Act → World → Prop}
    (hg : o.guard = none) (l c : Operand) (t : TypeId) (hop : o.op = Op.makeSlice t l c) (e : TypeId) (h1 : P.underlying t = some (.slice e)) (hinfo : (P.info? e).map (fun i => (i.zero, i.size, i.bytes)) = some (some (.int .u8 0), 1, 1))
    (kl kc : IntKind) (L C : Int) (n : Nat) (hl : a.eval l = .int kl L) (hc : a.eval c = .int kc C) (hL : L = (n : Int)) (hC : C = (n : Int)) (hn : n ≤ 1000000)
    (hK : ∀ w', w'.ownsRow w.heap.size e 1 (.slice (some ⟨w.heap.size, 0, none⟩) n n) n (bvs (List.replicate n 0)) → Below w.heap.size w w' → w.heap.size < w'.heap.size → wpList P ops Q rest (a.put o.dst (.slice (some ⟨w.heap.size, 0, none⟩) n n)) w') :
    wpList P ops Q (o :: rest) a w := by
  obtain ⟨i, hi, hz, hs, hb⟩ := info_parts hinfo
  refine wpList_make_full w hg l c t hop w.heap.size e i _ 1 h1 hi hz hs kl kc L C n hl hc hL hC (by rw [hb]; omega) (by unfold maxLen; omega) (Nat.le_refl _) fun w' hown hgr => ?_
  have e1 : (madeCells (Value.int .u8 0).cells (n * 1)).toList = bvs (List.replicate n 0) := by
    rw [Nat.mul_one]
    have := toList_madeCells_one (Value.int .u8 0) n
    rw [show (Value.int .u8 0).cells = #[Value.int .u8 0] from rfl, this]
    unfold bvs
    rw [List.map_replicate]
    rfl
  rw [e1] at hown
  exact hK w' hown ((Below.refl _ _).grown hgr (Nat.le_refl _) (fun k h => by cases h)) ((hown.lt _ rfl).2)

/-- A new slice of one row. -/
theorem RR.one {w : World} {e : TypeId} {s : ByteArray} {u : Value} {l : List UInt8} (hu : RB w u l) : RR (w.alloc (.cells #[.string s, u] e)) (.slice (some ⟨w.heap.size, 0, none⟩) 1 1) [(s, l)] := by
  refine ⟨some ⟨w.heap.size, 0, none⟩, 1, rfl, Nat.le_refl _, by unfold maxLen; omega, .inr ⟨w.heap.size, 0, rfl, by simp, fun j hj => ?_⟩⟩
  obtain rfl : j = 0 := by simpa using hj
  exact ⟨by simp, u, by simp, hu.alloc _⟩

/-- The bytes of N changes of an empty key that are gone. -/
def gones : Nat → List UInt8
  | 0 => []
  | n + 1 => gones n ++ [0, 1]
theorem gones_cons : ∀ n, gones (n + 1) = 0 :: 1 :: gones n
  | 0 => rfl
  | n + 1 => by
    show gones (n + 1) ++ [0, 1] = 0 :: 1 :: (gones n ++ [0, 1])
    rw [gones_cons n]
    rfl
theorem gones_len : ∀ n, (gones n).length = 2 * n
  | 0 => rfl
  | n + 1 => by rw [gones, List.length_append, gones_len n]; simp; omega
theorem getChange_gone {l rest : List UInt8} {q : Nat} (h : l.drop q = 0 :: 1 :: rest) : getChange l (q : Int) = ([], [], true, ((q + 2 : Nat) : Int), 0) := by
  have h1 := drop_cons h
  have h2 := drop_cons h1.2.2
  have ht : getText l (q : Int) 30 = ([], ((q + 1 : Nat) : Int), 0) := by
    have e : textL [] = [0] := by simp [textL, numL_lt]
    have := getText_back (L := l) (q := q) (s := []) (post := 1 :: rest) (by rw [e]; exact h) (by simp) 30
    rw [this, e]
    simp
  unfold getChange
  rw [ht]
  simp only [Int.toNat_natCast, h2.2.1]
  rw [if_neg (by simp), if_neg (by have := h2.1; omega)]
  simp
  omega
theorem chgsF_gones (l : List UInt8) : ∀ (f q : Nat) (acc : List Chg), l.drop q = gones f → (chgsF l f (q : Int) acc).2 = 0
  | 0, q, acc, h => by
    have : l.length ≤ q := by simpa [gones] using h
    rw [chgsF, if_neg (by omega)]
  | f + 1, q, acc, h => by
    rw [gones_cons] at h
    rw [chgsF, getChange_gone h]
    simp only [ne_eq, not_true_eq_false, if_false]
    exact chgsF_gones l f (q + 2) _ (drop_cons (drop_cons h).2.2).2.2
theorem readChgs_gones (N : Nat) (hN : N ≤ 1000000) : (readChgs (numL N ++ gones N)).2 = if 5000 < N then 3 else 0 := by
  have hg := getNum_back (q := 0) (n := N) (L := numL N ++ gones N) (post := gones N) rfl (by omega)
  have hg' : getNum (numL N ++ gones N) 0 = _ := hg
  unfold readChgs
  rw [hg']
  simp only [ne_eq, not_true_eq_false, if_false]
  by_cases h : 5000 < N
  · rw [if_pos (by omega), if_pos h]
  · rw [if_neg (by omega), if_neg h, Int.toNat_natCast]
    exact chgsF_gones _ N _ _ (by rw [Nat.zero_add, List.drop_left])
/-- One row of a key and a value, read back. -/
theorem readRows_one (k v : List UInt8) (hk : k.length ≤ 1000) (hv : v.length ≤ 1000) : (readRows (rowsL [((⟨k.toArray⟩ : ByteArray), v)])).2 = if 30 < k.length ∨ 150 < v.length then 3 else 0 := by
  have e : rowsL [((⟨k.toArray⟩ : ByteArray), v)] = numL 1 ++ (textL k ++ textL v) := by simp [rowsL, rowsB, rowL]
  rw [e]
  have hg : getNum (numL 1 ++ (textL k ++ textL v)) 0 = _ := getNum_back (q := 0) (n := 1) (post := textL k ++ textL v) rfl (by omega)
  have ht1 := fun m => getText_back (L := numL 1 ++ (textL k ++ textL v)) (q := (numL 1).length) (s := k) (post := textL v) (by rw [List.drop_left]) (by omega) m
  have ht2 := fun m => getText_back (L := numL 1 ++ (textL k ++ textL v)) (q := (numL 1).length + (textL k).length) (s := v) (post := []) (by rw [← List.drop_drop, List.drop_left, List.drop_left, List.append_nil]) (by omega) m
  have hlen : (numL 1 ++ (textL k ++ textL v)).length = (numL 1).length + (textL k).length + (textL v).length := by simp; omega
  unfold readRows
  rw [hg]
  simp only [ne_eq, not_true_eq_false, if_false, Nat.zero_add]
  rw [if_neg (by omega), show Int.toNat ((1 : Nat) : Int) = 0 + 1 from rfl, rowsF]
  have hrow : getRow (numL 1 ++ (textL k ++ textL v)) ((numL 1).length : Int) = if 30 < k.length ∨ 150 < v.length then ([], [], 0, 3) else (k, v, (((numL 1).length + (textL k).length + (textL v).length : Nat) : Int), 0) := by
    unfold getRow
    rw [ht1]
    by_cases h1 : (30 : Int) < (k.length : Int)
    · have hR : 30 < k.length ∨ 150 < v.length := .inl (by omega)
      rw [if_pos h1, if_pos hR]
      simp
    · rw [if_neg h1]
      simp only [ne_eq, not_true_eq_false, if_false]
      rw [ht2]
      by_cases h2 : (150 : Int) < (v.length : Int)
      · have hR : 30 < k.length ∨ 150 < v.length := .inr (by omega)
        rw [if_pos h2, if_pos hR]
        simp
      · have hR : ¬ (30 < k.length ∨ 150 < v.length) := by omega
        rw [if_neg h2, if_neg hR]
        simp
  rw [hrow]
  by_cases hR : 30 < k.length ∨ 150 < v.length
  · rw [if_pos hR, if_pos hR]
    simp
  · rw [if_neg hR, if_neg hR]
    simp only [ne_eq, not_true_eq_false, if_false, rowsF]
    rw [if_neg (by rw [hlen]; omega)]
end Go.Proofs.Ytjanggdjbieceaa
