/-
  Plain mathematics: the bytes of rows are read as these rows. No program.
-/
import Derived.Test.YtjanggdjbieceaaRows1
import Derived.Test.YtjanggdjbieceaaTake2
namespace Go.Proofs.Ytjanggdjbieceaa
open Go.RowKit Go.Rst

theorem ba_eq (k : ByteArray) : (⟨k.data.toList.toArray⟩ : ByteArray) = k := by cases k; simp
theorem getRow_back {l post k v : List UInt8} {q : Nat} (h : l.drop q = textL k ++ (textL v ++ post)) (hk : k.length ≤ 30) (hv : v.length ≤ 150) :
    getRow l (q : Int) = (k, v, ((q + (textL k).length + (textL v).length : Nat) : Int), 0) := by
  have h1 := getText_back h (by omega) 30
  have h2 : l.drop (q + (textL k).length) = textL v ++ post := by rw [← List.drop_drop, h, List.drop_left]
  have h3 := getText_back h2 (by omega) 150
  rw [if_neg (by omega)] at h1 h3
  unfold getRow
  rw [h1]
  simp only [ne_eq, not_true_eq_false, if_false]
  rw [h3]
  simp
/-- Short rows. -/
def Short (rs : List (ByteArray × List UInt8)) : Prop := ∀ r ∈ rs, r.1.data.toList.length ≤ 30 ∧ r.2.length ≤ 150
theorem rowsF_back (l : List UInt8) : ∀ (rs : List (ByteArray × List UInt8)) (q : Nat) (acc : List (ByteArray × List UInt8)), l.drop q = rowsB rs → Short rs → rowsF l rs.length (q : Int) acc = (acc ++ rs, 0)
  | [], q, acc, h, _ => by
    have h0 : l.length ≤ q := by simpa [rowsB] using h
    rw [List.length_nil, rowsF, if_neg (by omega), List.append_nil]
  | r :: rs, q, acc, h, hs => by
    have e : rowsB (r :: rs) = textL r.1.data.toList ++ (textL r.2 ++ rowsB rs) := by simp [rowsB, rowL, List.append_assoc]
    rw [e] at h
    have hr := hs r (by simp)
    have hg := getRow_back h hr.1 hr.2
    rw [List.length_cons, rowsF, hg]
    simp only [ne_eq, not_true_eq_false, if_false]
    have h2 : l.drop (q + (textL r.1.data.toList).length + (textL r.2).length) = rowsB rs := by rw [← List.drop_drop, ← List.drop_drop, h, List.drop_left, List.drop_left]
    rw [rowsF_back l rs _ _ h2 (fun x hx => hs x (by simp [hx])), ba_eq]
    simp
theorem readRows_back (rs : List (ByteArray × List UInt8)) (hn : rs.length ≤ 5000) (hs : Short rs) : readRows (rowsL rs) = (rs, 0) := by
  have hg : getNum (rowsL rs) 0 = _ := getNum_back (q := 0) (n := rs.length) (L := rowsL rs) (post := rowsB rs) rfl (by omega)
  unfold readRows
  rw [hg]
  simp only [ne_eq, not_true_eq_false, if_false]
  rw [if_neg (by omega), Int.toNat_natCast, rowsF_back _ rs _ _ (by rw [Nat.zero_add]; unfold rowsL; rw [List.drop_left]) hs, List.nil_append]
end Go.Proofs.Ytjanggdjbieceaa
