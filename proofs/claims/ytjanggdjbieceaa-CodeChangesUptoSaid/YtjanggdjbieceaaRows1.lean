/-
  The contracts of the generic list at rows, and of code.Rows: they make the bytes of rows that take at most a billion bytes in all.
-/
import Derived.Test.YtjanggdjbieceaaRow
namespace Go.Proofs.Ytjanggdjbieceaa
open Go.RowKit Go.Rst

def rowsB (rs : List (ByteArray × List UInt8)) : List UInt8 := rs.flatMap fun r => rowL r.1.data.toList r.2
def rowsL (rs : List (ByteArray × List UInt8)) : List UInt8 := numL rs.length ++ rowsB rs
theorem rowsB_take {rs : List (ByteArray × List UInt8)} {k : Nat} (h : k < rs.length) : rowsB (rs.take (k + 1)) = rowsB (rs.take k) ++ rowL rs[k].1.data.toList rs[k].2 := by
  unfold rowsB
  rw [List.take_succ_eq_append_getElem h, List.flatMap_append]
  simp
theorem rowsB_le (rs : List (ByteArray × List UInt8)) (k : Nat) : (rowsB (rs.take k)).length ≤ (rowsB rs).length := by
  conv => rhs; rw [← List.take_append_drop k rs]
  unfold rowsB
  rw [List.flatMap_append, List.length_append]
  omega
theorem rowL_len (k l : List UInt8) : k.length + l.length ≤ (rowL k l).length := by
  unfold rowL textL
  simp only [List.length_append]
  omega

set_option maxRecDepth 100000 in
set_option maxHeartbeats 1600000 in
theorem list_any (v : Value) (rs : List (ByteArray × List UInt8)) (hbig : (rowsB rs).length ≤ 1000000000) (hn : rs.length ≤ 1000000000) (w : World) (hv : RR w v rs) :
    Calls Try.prog 35 #[v, .func (Fn.func 36) #[] #[]] w (NewB 5 w (rowsL rs)) := by
  obtain ⟨A, c, rfl, hlc, hc, hcells⟩ := hv
  have HC := Lib.hid hcells
  clear hcells
  unfold maxLen at hc
  go_enter Try.func35, Try.ntmps35
  go_wp2_with fail
  refine (num_any _ _).mono ?_
  rintro e w1 ⟨vn, rfl, hown, hbel⟩
  have e1 : clip (rs.length : Int) = rs.length := by unfold clip; omega
  rw [e1] at hown
  have h8 := numL_len8 (n := rs.length) (by omega)
  clear e1
  go_wp2
  go_loopw [5, 13] (fun b i wr => ∃ k : Nat, k ≤ rs.length ∧ i = .int .i64 k ∧ wr.ownsRow w.heap.size 5 1 b (numL rs.length ++ rowsB (rs.take k)).length (bvs (numL rs.length ++ rowsB (rs.take k))) ∧ Below w.heap.size w wr)
    (fun _ i _ => rs.length - (intOf i).toNat)
  case atStart => exact ⟨0, Nat.zero_le _, rfl, by simpa [rowsB] using hown, hbel⟩
  case round =>
    clear hown hbel
    obtain ⟨k, hk, rfl, hown, hbel⟩ := hrel
    by_cases hlt : k < rs.length
    · obtain ⟨b, off, rfl, hb, hcell⟩ : ∃ b off, A = some ⟨b, off, none⟩ ∧ b < w.heap.size ∧
          ∀ j (h : j < rs.length), w.cell? ⟨b, off + j * 2, none⟩ = some (.string rs[j].1) ∧ ∃ u, w.cell? ⟨b, off + j * 2 + 1, none⟩ = some u ∧ RB w u rs[j].2 := by
        rcases HC.out with rfl | h
        · simp at hlt
        · exact h
      obtain ⟨hc0, u, hc1, hru⟩ := hcell k hlt
      have hk0 := (hbel.cell (p := ⟨b, off + k * 2, none⟩) hb).trans hc0
      have hk1 := (hbel.cell (p := ⟨b, off + k * 2 + 1, none⟩) hb).trans hc1
      have hru1 := hru.below hbel
      have htk := rowsB_take hlt
      have hle := rowsB_le rs (k + 1)
      have hrl := rowL_len rs[k].1.data.toList rs[k].2
      rw [htk, List.length_append] at hle
      generalize rs[k] = r at *
      have HT := Lib.hid htk
      have hsz := hbel.size
      clear hcell hc0 hc1 htk HC
      obtain ⟨A2, c2, rfl⟩ : ∃ A2 c2, u = .slice A2 r.2.length c2 := by
        obtain ⟨A2, c2, h, _⟩ := hru
        exact ⟨A2, c2, h⟩
      have hkl : r.1.size ≤ 1000000000 := by rw [Array.length_toList] at hrl; show r.1.data.size ≤ _; omega
      have hcall := fun W hW => row_any r.1 (.slice A2 r.2.length c2) r.2 hkl (by omega) W hW
      have HL := Lib.hid hcall
      clear hcall hru hkl
      go_wp2_with fail
      refine (HL.out _ ?_).mono ?_
      · exact hru1.alloc _
      rintro e w2 ⟨v2, rfl, hown2, hbel2⟩
      have hb3 : Below w.heap.size w w2 := (hbel.alloc hsz _).trans (hbel2.mono (by simp; omega))
      have hown3 := own_below (hown.alloc _) hbel2
      clear hown hbel hru1 hk0 hk1
      go_wp2_with (at_builtin; refine wpList_own rfl (.tmp 17) (.tmp 20) 22 22 rfl w.heap.size 5 (.int .u8 0) 1 1 Try.underlying22 info5 rfl rfl hown3 rfl ((RB.own hown2).src Try.underlying22) hb3 (Nat.le_refl _) ?_ ?_ ?_ ?_)
      · rw [List.length_append]; unfold maxLen; omega
      · rw [List.length_append]; omega
      · exact hb3.size
      · intro v' w4 hown' hbel' _
        go_wp2
        go_roundw
        case rel => exact ⟨k + 1, by omega, by go_num, by rw [HT.out, ← List.append_assoc]; exact own_cat (by rw [List.length_append]; exact hown'), hbel'⟩
        case measure => simp [intOf]; omega
    · go_wp2
      go_ret
      have : k = rs.length := by omega
      subst this
      rw [List.take_length] at hown
      exact ⟨_, rfl, hown, hbel⟩

set_option maxRecDepth 100000 in
set_option maxHeartbeats 1600000 in
theorem rows_any (v : Value) (rs : List (ByteArray × List UInt8)) (hbig : (rowsB rs).length ≤ 1000000000) (hn : rs.length ≤ 1000000000) (w : World) (hv : RR w v rs) :
    Calls Try.prog 14 #[v] w (NewB 5 w (rowsL rs)) := by
  go_enter Try.func14, Try.ntmps14
  go_wp2_with fail
  refine (list_any v rs hbig hn w hv).mono ?_
  rintro e w1 ⟨v1, rfl, hown, hbel⟩
  go_wp2
  go_ret
  exact ⟨v1, rfl, hown, hbel⟩
end Go.Proofs.Ytjanggdjbieceaa
