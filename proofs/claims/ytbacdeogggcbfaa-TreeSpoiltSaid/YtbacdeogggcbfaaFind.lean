/-
  The contracts of page.Find and of the document's own: the place of the last row whose key is not above one.
-/
import Derived.Test.YtbacdeogggcbfaaGPure
import Derived.Test.YtbacdeogggcbfaaGWords
namespace Go.Proofs.Ytbacdeogggcbfaa
open Go.RowKit Go.Rst Go.Pg

set_option maxRecDepth 100000 in
set_option maxHeartbeats 1600000 in
theorem find_any (v : Value) (rs : List Rw) (key : ByteArray) (w : World) (hv : RR w v rs) :
    Calls Try.prog 42 #[v, .string key] w fun e w' => e = .returned (.int .i64 (findL rs key)) ∧ Below w.heap.size w w' := by
  have HV := Lib.hid hv
  obtain ⟨A, c, rfl, hlc, hc, _⟩ := hv
  unfold maxLen at hc
  go_enter Try.func42, Try.ntmps42
  go_wp2
  go_loopw [9] (fun i wr => ∃ k : Nat, k ≤ rs.length ∧ i = .int .i64 k ∧ findC rs key = k + findC (rs.drop k) key ∧ Below w.heap.size w wr) (fun i _ => rs.length - (intOf i).toNat)
  case atStart => exact ⟨0, Nat.zero_le _, rfl, by simp, Below.refl _ _⟩
  case round =>
    obtain ⟨k, hk, rfl, hf, hbel⟩ := hrel
    by_cases hlt : k < rs.length
    · obtain ⟨b, off, u, rfl, hx0, hy0, hr0⟩ := rr_at HV.out hlt
      have hb := rr_block HV.out (by omega)
      have hx := (hbel.cell (p := ⟨b, off + k * 2, none⟩) hb).trans hx0
      have hy := (hbel.cell (p := ⟨b, off + k * 2 + 1, none⟩) hb).trans hy0
      rw [find_go hlt] at hf
      obtain ⟨A2, c2, rfl⟩ : ∃ A2 c2, u = .slice A2 rs[k].2.length c2 := by
        obtain ⟨A2, c2, h, _⟩ := hr0
        exact ⟨A2, c2, h⟩
      generalize rs[k] = r at *
      obtain ⟨ky, l⟩ := r
      simp only [] at hx hy hf
      have HF := Lib.hid hf
      have HB := Lib.hid hbel
      have hsz := hbel.size
      clear hf hbel hx0 hy0 hr0 HV
      rcases sle_cases ky key with ⟨h0, h1⟩ | ⟨h0, h1, h2⟩ | ⟨h0, h1, h2⟩
      · have H0 := Lib.hid h0
        clear h0
        go_wp2
        go_roundw
        case rel => exact ⟨k + 1, by omega, by go_num, by rw [HF.out, if_pos H0.out]; omega, HB.out.alloc hsz _⟩
        case measure => simp [intOf]; omega
      · have H0 := Lib.hid h0
        clear h0
        go_wp2
        go_roundw
        case rel => exact ⟨k + 1, by omega, by go_num, by rw [HF.out, if_pos H0.out]; omega, HB.out.alloc hsz _⟩
        case measure => simp [intOf]; omega
      · have H0 := Lib.hid h0
        clear h0
        have E := Lib.hid (show findL rs key = (k : Int) - 1 by unfold findL; rw [HF.out, if_neg (by rw [H0.out]; simp)]; simp)
        clear HF
        go_wp2
        go_ret
        rw [E.out]
        exact ⟨rfl, HB.out.alloc hsz _⟩
    · have e : k = rs.length := by omega
      have E := Lib.hid (show findL rs key = (rs.length : Int) - 1 by unfold findL; rw [hf, e, List.drop_length]; simp [findC])
      have HB := Lib.hid hbel
      clear hf hbel
      go_wp2
      go_ret
      rw [E.out]
      exact ⟨rfl, HB.out⟩

end Go.Proofs.Ytbacdeogggcbfaa
