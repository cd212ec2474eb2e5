/-
  The contracts of the generic list at changes, and of code.Changes: they make the bytes of changes that take at most a billion bytes in all.
-/
import Derived.Test.YtjanggdjbieceaaChange
namespace Go.Proofs.Ytjanggdjbieceaa
open Go.RowKit Go.Rst
theorem chgsB_take {rs : List Chg} {k : Nat} (h : k < rs.length) : chgsB (rs.take (k + 1)) = chgsB (rs.take k) ++ chgL rs[k] := by
  unfold chgsB
  rw [List.take_succ_eq_append_getElem h, List.flatMap_append]
  simp
theorem chgsB_le (rs : List Chg) (k : Nat) : (chgsB (rs.take k)).length ≤ (chgsB rs).length := by
  conv => rhs; rw [← List.take_append_drop k rs]
  unfold chgsB
  rw [List.flatMap_append, List.length_append]
  omega
theorem chgL_len (c : Chg) : c.1.data.toList.length ≤ (chgL c).length := by
  unfold chgL textL
  simp only [List.length_append]
  omega

set_option maxRecDepth 100000 in
set_option maxHeartbeats 1600000 in
theorem listC_any (v : Value) (rs : List Chg) (hbig : (chgsB rs).length ≤ 1000000000) (hn : rs.length ≤ 1000000000) (hvb : ∀ r ∈ rs, r.2.1.length ≤ 1000000000) (w : World) (hv : RC w v rs) :
    Calls Try.prog 38 #[v, .func (Fn.func 39) #[] #[]] w (NewB 5 w (chgsL rs)) := by
  obtain ⟨A, c, rfl, hlc, hc, hcells⟩ := hv
  have HC := Lib.hid hcells
  have HBIG := Lib.hid hvb
  clear hvb
  clear hcells
  unfold maxLen at hc
  go_enter Try.func38, Try.ntmps38
  go_wp2_with fail
  refine (num_any _ _).mono ?_
  rintro e w1 ⟨vn, rfl, hown, hbel⟩
  have e1 : clip (rs.length : Int) = rs.length := by unfold clip; omega
  rw [e1] at hown
  have h8 := numL_len8 (n := rs.length) (by omega)
  clear e1
  go_wp2
  go_loopw [5, 13] (fun b i wr => ∃ k : Nat, k ≤ rs.length ∧ i = .int .i64 k ∧ wr.ownsRow w.heap.size 5 1 b (numL rs.length ++ chgsB (rs.take k)).length (bvs (numL rs.length ++ chgsB (rs.take k))) ∧ Below w.heap.size w wr)
    (fun _ i _ => rs.length - (intOf i).toNat)
  case atStart => exact ⟨0, Nat.zero_le _, rfl, by simpa [chgsB] using hown, hbel⟩
  case round =>
    clear hown hbel
    obtain ⟨k, hk, rfl, hown, hbel⟩ := hrel
    by_cases hlt : k < rs.length
    · obtain ⟨b, off, rfl, hb, hcell⟩ : ∃ b off, A = some ⟨b, off, none⟩ ∧ b < w.heap.size ∧
          ∀ j (h : j < rs.length), w.cell? ⟨b, off + j * 3, none⟩ = some (.string rs[j].1) ∧ (∃ u, w.cell? ⟨b, off + j * 3 + 1, none⟩ = some u ∧ RB w u rs[j].2.1) ∧ w.cell? ⟨b, off + j * 3 + 2, none⟩ = some (.bool rs[j].2.2) := by
        rcases HC.out with rfl | h
        · simp at hlt
        · exact h
      obtain ⟨hc0, ⟨u, hc1, hru⟩, hc2⟩ := hcell k hlt
      have hk0 := (hbel.cell (p := ⟨b, off + k * 3, none⟩) hb).trans hc0
      have hk1 := (hbel.cell (p := ⟨b, off + k * 3 + 1, none⟩) hb).trans hc1
      have hk2 := (hbel.cell (p := ⟨b, off + k * 3 + 2, none⟩) hb).trans hc2
      have hru1 := hru.below hbel
      have htk := chgsB_take hlt
      have hle := chgsB_le rs (k + 1)
      have hrl := chgL_len rs[k]
      have hrv := HBIG.out rs[k] (List.getElem_mem hlt)
      rw [htk, List.length_append] at hle
      generalize rs[k] = r at *
      have HT := Lib.hid htk
      have hsz := hbel.size
      clear hcell hc0 hc1 hc2 htk HC
      obtain ⟨A2, c2, rfl⟩ : ∃ A2 c2, u = .slice A2 r.2.1.length c2 := by
        obtain ⟨A2, c2, h, _⟩ := hru
        exact ⟨A2, c2, h⟩
      have hkl : r.1.size ≤ 1000000000 := by rw [Array.length_toList] at hrl; show r.1.data.size ≤ _; omega
      have hcall : ∀ W, RB W (.slice A2 r.2.1.length c2) r.2.1 → Calls Try.prog 39 #[.agg #[.string r.1, .slice A2 r.2.1.length c2, .bool r.2.2]] W (NewB 5 W (chgL r)) := fun W hW => change_any r.1 (.slice A2 r.2.1.length c2) r.2.1 r.2.2 hkl (by omega) W hW
      have HL := Lib.hid hcall
      clear hcall hru hkl
      go_wp2_with fail
      refine (HL.out _ ?_).mono ?_
      · exact hru1.alloc _
      rintro e w2 ⟨v2, rfl, hown2, hbel2⟩
      have hb3 : Below w.heap.size w w2 := (hbel.alloc hsz _).trans (hbel2.mono (by simp; omega))
      have hown3 := own_below (hown.alloc _) hbel2
      clear hown hbel hru1 hk0 hk1 hk2
      go_wp2_with (at_builtin; refine wpList_own rfl (.tmp 17) (.tmp 20) 22 22 rfl w.heap.size 5 (.int .u8 0) 1 1 Try.underlying22 info5 rfl rfl hown3 rfl ((RB.own hown2).src Try.underlying22) hb3 (Nat.le_refl _) ?_ ?_ ?_ ?_)
      · rw [List.length_append]; unfold maxLen; omega
      · rw [List.length_append]; omega
      · exact hb3.size
      · intro v' w4 hown' hbel' _
        go_wp2
        go_roundw
        case rel => exact ⟨k + 1, by omega, by go_num, by rw [HT.out, ← List.append_assoc]; exact own_cat (by rw [List.length_append]; exact hown'), hbel'⟩
        case measure => simp [intOf]; omega
    · go_wp2
      go_ret
      have : k = rs.length := by omega
      subst this
      rw [List.take_length] at hown
      exact ⟨_, rfl, hown, hbel⟩

set_option maxRecDepth 100000 in
set_option maxHeartbeats 1600000 in
theorem changes_any (v : Value) (rs : List Chg) (hbig : (chgsB rs).length ≤ 1000000000) (hn : rs.length ≤ 1000000000) (hvb : ∀ r ∈ rs, r.2.1.length ≤ 1000000000) (w : World) (hv : RC w v rs) :
    Calls Try.prog 26 #[v] w (NewB 5 w (chgsL rs)) := by
  go_enter Try.func26, Try.ntmps26
  go_wp2_with fail
  refine (listC_any v rs hbig hn hvb w hv).mono ?_
  rintro e w1 ⟨v1, rfl, hown, hbel⟩
  go_wp2
  go_ret
  exact ⟨v1, rfl, hown, hbel⟩
end Go.Proofs.Ytjanggdjbieceaa
