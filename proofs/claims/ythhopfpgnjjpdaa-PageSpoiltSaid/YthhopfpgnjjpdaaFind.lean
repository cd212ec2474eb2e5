/-
  The contracts of page.Find and of the document's own: the place of the last row whose key is not above one.
-/
import Derived.Test.YthhopfpgnjjpdaaPMath2
import Derived.Test.YthhopfpgnjjpdaaSame
namespace Go.Pg
/-- Not above. -/
def sle (a b : ByteArray) : Bool := Op.bytesLess a.toList b.toList || a.toList == b.toList
def findC : List Rw → ByteArray → Nat
  | [], _ => 0
  | r :: rs, key => if sle r.1 key then 1 + findC rs key else 0
def findL (rs : List Rw) (key : ByteArray) : Int := (findC rs key : Int) - 1
theorem find_go {rs : List Rw} {k : Nat} {key : ByteArray} (h : k < rs.length) : findC (rs.drop k) key = if sle rs[k].1 key then 1 + findC (rs.drop (k + 1)) key else 0 := by
  rw [List.drop_eq_getElem_cons h, findC]
theorem sle_cases (a b : ByteArray) : (sle a b = true ∧ Op.bytesLess a.toList b.toList = true) ∨ (sle a b = true ∧ Op.bytesLess a.toList b.toList = false ∧ (a.toList == b.toList) = true) ∨ (sle a b = false ∧ Op.bytesLess a.toList b.toList = false ∧ (a.toList == b.toList) = false) := by
  unfold sle
  cases h1 : Op.bytesLess a.toList b.toList
  · cases h2 : a.toList == b.toList
    · exact .inr (.inr ⟨rfl, rfl, rfl⟩)
    · exact .inr (.inl ⟨rfl, rfl, rfl⟩)
  · exact .inl ⟨rfl, rfl⟩
end Go.Pg
namespace Go.Proofs.Ythhopfpgnjjpdaa
open Go.RowKit Go.Rst Go.Pg

theorem rr_block {w : World} {b off n c : Nat} {rs : List Rw} (h : RR w (.slice (some ⟨b, off, none⟩) n c) rs) (hl : 0 < rs.length) : b < w.heap.size := by
  obtain ⟨A', c', he, _, _, h3⟩ := h
  injection he with e1 _ _
  rcases h3 with rfl | ⟨b', off', h4, h5, _⟩
  · simp at hl
  · rw [h4] at e1; injection e1 with e1; injection e1 with e1 _ _; omega

set_option maxRecDepth 100000 in
set_option maxHeartbeats 1600000 in
theorem find_any (v : Value) (rs : List Rw) (key : ByteArray) (w : World) (hv : RR w v rs) :
    Calls Try.prog 21 #[v, .string key] w fun e w' => e = .returned (.int .i64 (findL rs key)) ∧ Below w.heap.size w w' := by
  have HV := Lib.hid hv
  obtain ⟨A, c, rfl, hlc, hc, _⟩ := hv
  unfold maxLen at hc
  go_enter Try.func21, Try.ntmps21
  go_wp2
  go_loopw [9] (fun i wr => ∃ k : Nat, k ≤ rs.length ∧ i = .int .i64 k ∧ findC rs key = k + findC (rs.drop k) key ∧ Below w.heap.size w wr) (fun i _ => rs.length - (intOf i).toNat)
  case atStart => exact ⟨0, Nat.zero_le _, rfl, by simp, Below.refl _ _⟩
  case round =>
    obtain ⟨k, hk, rfl, hf, hbel⟩ := hrel
    by_cases hlt : k < rs.length
    · obtain ⟨b, off, u, rfl, hx0, hy0, hr0⟩ := rr_at HV.out hlt
      have hb := rr_block HV.out (by omega)
      have hx := (hbel.cell (p := ⟨b, off + k * 2, none⟩) hb).trans hx0
      have hy := (hbel.cell (p := ⟨b, off + k * 2 + 1, none⟩) hb).trans hy0
      rw [find_go hlt] at hf
      obtain ⟨A2, c2, rfl⟩ : ∃ A2 c2, u = .slice A2 rs[k].2.length c2 := by
        obtain ⟨A2, c2, h, _⟩ := hr0
        exact ⟨A2, c2, h⟩
      generalize rs[k] = r at *
      obtain ⟨ky, l⟩ := r
      simp only [] at hx hy hf
      have HF := Lib.hid hf
      have HB := Lib.hid hbel
      have hsz := hbel.size
      clear hf hbel hx0 hy0 hr0 HV
      rcases sle_cases ky key with ⟨h0, h1⟩ | ⟨h0, h1, h2⟩ | ⟨h0, h1, h2⟩
      · have H0 := Lib.hid h0
        clear h0
        go_wp2
        go_roundw
        case rel => exact ⟨k + 1, by omega, by go_num, by rw [HF.out, if_pos H0.out]; omega, HB.out.alloc hsz _⟩
        case measure => simp [intOf]; omega
      · have H0 := Lib.hid h0
        clear h0
        go_wp2
        go_roundw
        case rel => exact ⟨k + 1, by omega, by go_num, by rw [HF.out, if_pos H0.out]; omega, HB.out.alloc hsz _⟩
        case measure => simp [intOf]; omega
      · have H0 := Lib.hid h0
        clear h0
        have E := Lib.hid (show findL rs key = (k : Int) - 1 by unfold findL; rw [HF.out, if_neg (by rw [H0.out]; simp)]; simp)
        clear HF
        go_wp2
        go_ret
        rw [E.out]
        exact ⟨rfl, HB.out.alloc hsz _⟩
    · have e : k = rs.length := by omega
      have E := Lib.hid (show findL rs key = (rs.length : Int) - 1 by unfold findL; rw [hf, e, List.drop_length]; simp [findC])
      have HB := Lib.hid hbel
      clear hf hbel
      go_wp2
      go_ret
      rw [E.out]
      exact ⟨rfl, HB.out⟩

set_option maxRecDepth 100000 in
set_option maxHeartbeats 1600000 in
theorem refFind_any (v : Value) (rs : List Rw) (key : ByteArray) (w : World) (hv : RR w v rs) :
    Calls Try.prog 27 #[v, .string key] w fun e w' => e = .returned (.int .i64 (findL rs key)) ∧ Below w.heap.size w w' := by
  have HV := Lib.hid hv
  obtain ⟨A, c, rfl, hlc, hc, _⟩ := hv
  unfold maxLen at hc
  go_enter Try.func27, Try.ntmps27
  go_wp2
  go_loopw [5, 6] (fun n i wr => ∃ k : Nat, k ≤ rs.length ∧ i = .int .i64 k ∧ n = .int .i64 ((k : Int) - 1) ∧ findC rs key = k + findC (rs.drop k) key ∧ Below w.heap.size w wr) (fun _ i _ => rs.length - (intOf i).toNat)
  case atStart => exact ⟨0, Nat.zero_le _, rfl, rfl, by simp, Below.refl _ _⟩
  case round =>
    obtain ⟨k, hk, rfl, rfl, hf, hbel⟩ := hrel
    by_cases hlt : k < rs.length
    · obtain ⟨b, off, u, rfl, hx0, hy0, hr0⟩ := rr_at HV.out hlt
      have hb := rr_block HV.out (by omega)
      have hx := (hbel.cell (p := ⟨b, off + k * 2, none⟩) hb).trans hx0
      have hy := (hbel.cell (p := ⟨b, off + k * 2 + 1, none⟩) hb).trans hy0
      rw [find_go hlt] at hf
      generalize rs[k] = r at *
      obtain ⟨ky, l⟩ := r
      simp only [] at hx hy hf
      have HF := Lib.hid hf
      have HB := Lib.hid hbel
      have hsz := hbel.size
      clear hf hbel hx0 hy0 hr0 HV
      rcases sle_cases ky key with ⟨h0, h1⟩ | ⟨h0, h1, h2⟩ | ⟨h0, h1, h2⟩
      · have H0 := Lib.hid h0
        clear h0
        go_wp2
        go_roundw
        case rel => exact ⟨k + 1, by omega, by go_num, by go_num, by rw [HF.out, if_pos H0.out]; omega, HB.out⟩
        case measure => simp [intOf]; omega
      · have H0 := Lib.hid h0
        clear h0
        go_wp2
        go_roundw
        case rel => exact ⟨k + 1, by omega, by go_num, by go_num, by rw [HF.out, if_pos H0.out]; omega, HB.out⟩
        case measure => simp [intOf]; omega
      · have H0 := Lib.hid h0
        clear h0
        have E := Lib.hid (show findL rs key = (k : Int) - 1 by unfold findL; rw [HF.out, if_neg (by rw [H0.out]; simp)]; simp)
        clear HF
        go_wp2
        go_ret
        rw [E.out]
        exact ⟨rfl, HB.out⟩
    · have e : k = rs.length := by omega
      have E := Lib.hid (show findL rs key = (k : Int) - 1 by unfold findL; rw [hf, e, List.drop_length]; simp [findC])
      have HB := Lib.hid hbel
      clear hf hbel
      go_wp2
      go_ret
      rw [E.out]
      exact ⟨rfl, HB.out⟩
end Go.Proofs.Ythhopfpgnjjpdaa
