/-
 The contract of page.Fit: how many of any rows, from the first on, have room.
-/
import Derived.Test.YtmbkaedhllfoeaaKVA
import Derived.Test.YtmbkaedhllfoeaaKVB
import Derived.Test.YtmbkaedhllfoeaaKVI
import Derived.Deep.QuietTactic
import Derived.BigQuiet
set_option linter.unusedVariables false
namespace Go.Proofs.Ytmbkaedhllfoeaa
open Go.RowKit Go.Rst Go.Pg
set_option maxRecDepth 100000 in
set_option maxHeartbeats 1600000 in
theorem fit_any (v : Value) (rs : List Rw) (w : World) (hv : RR w v rs) :
  Calls Try.prog 87 #[v] w fun e w' => e = .returned (.int .i64 (fitN rs : Nat)) ∧ Below w.heap.size w w' := by
 have HV := Lib.hid hv
 obtain ⟨A, c, rfl, hlc, hc, _⟩ := hv
 unfold maxLen at hc
 go_enter Try.func87, Try.ntmps87
 go_wp2
 go_loopw [3, 8] (fun left i wr => ∃ k : Nat, k ≤ rs.length ∧ i = .int .i64 k ∧ left = .int .i64 ((250 : Int) - (used (rs.take k) : Nat)) ∧ used (rs.take k) ≤ 250 ∧ fitN rs = k + fitF (rs.drop k) (250 - used (rs.take k)) ∧ Below w.heap.size w wr)
  (fun _ i _ => rs.length - (intOf i).toNat)
 case atStart => exact ⟨0, Nat.zero_le _, rfl, rfl, by simp [used, body], by simp [used, body, fitN], Below.refl _ _⟩
 case round =>
  obtain ⟨k, hk, rfl, rfl, hu, hf, hbel⟩ := hrel
  by_cases hlt : k < rs.length
  ·obtain ⟨b, off, u, rfl, hx0, hy0, hr0⟩ := rr_at HV.out hlt
   have hb : b < w.heap.size := by
    obtain ⟨A', c', he, _, _, h3⟩ := HV.out
    injection he with e1 _ _
    rcases h3 with rfl | ⟨b', off', h4, h5, _⟩
    ·simp at hlt
    ·rw [h4] at e1; injection e1 with e1; injection e1 with e1 _ _; omega
   have hx := (hbel.cell (p := ⟨b, off + k * 2, none⟩) hb).trans hx0
   have hy := (hbel.cell (p := ⟨b, off + k * 2 + 1, none⟩) hb).trans hy0
   have hru := hr0.below hbel
   rw [fit_go hlt hu, used_take hlt] at hf
   have hut := used_take hlt
   have hrp := rowB_pos rs[k]
   unfold rsz at hf hut
   generalize rs[k] = r at *
   obtain ⟨key, l⟩ := r
   simp only [] at hx hy hru hf hut
   obtain ⟨U, hU⟩ : ∃ U, U = used (rs.take k) := ⟨_, rfl⟩
   rw [← hU] at hu hf hut
   have HU := Lib.hid hU
   have HF := Lib.hid hf
   have HUT := Lib.hid hut
   obtain ⟨A2, c2, rfl, g1, g2, _⟩ : ∃ A2 c2, u = .slice A2 l.length c2 ∧ l.length ≤ c2 ∧ c2 ≤ maxLen ∧ True := by
    obtain ⟨A2, c2, h, h1, h2, _⟩ := hru
    exact ⟨A2, c2, h, h1, h2, trivial⟩
   have hB := hbel
   have HB := Lib.hid hbel
   have hsz := hbel.size
   have HR := Lib.hid hru
   unfold maxLen at g2
   rw [← hU]
   clear hU hf hut hx0 hy0 hr0 hbel hru HV
   by_cases hkey : 30 < key.size
   ·have E := Lib.hid (show fitN rs = k by have := HF.out; rw [if_pos (.inl hkey)] at this; exact this)
    have hkey' : (30 : Int) < (key.size : Int) := by omega
    clear HF HUT
    go_wp2
    go_ret
    rw [E.out]
    exact ⟨rfl, HB.out.alloc hsz _⟩
   ·have hkey' : (key.size : Int) ≤ 30 := by omega
    by_cases hval : 150 < l.length
    ·have E := Lib.hid (show fitN rs = k by have := HF.out; rw [if_pos (.inr hval)] at this; exact this)
     have hval' : (150 : Int) < (l.length : Int) := by omega
     clear HF HUT
     go_wp2
     go_ret
     rw [E.out]
     exact ⟨rfl, HB.out.alloc hsz _⟩
    ·have hval' : (l.length : Int) ≤ 150 := by omega
     have hF := HF.out
     rw [if_neg (by omega)] at hF
     have HF2 := Lib.hid hF
     have hcall := fun W hW => row_any key (.slice A2 l.length c2) l (by omega) (by omega) W hW
     have HL := Lib.hid hcall
     obtain ⟨R, hR⟩ : ∃ R, R = (rowB (key, l)).length := ⟨_, rfl⟩
     have hR2 : (rowL key.data.toList l).length = R := hR.symm
     rw [← hR] at HF2 HUT hrp
     have HR2 := Lib.hid hR2
     have hRm : R ≤ 1000000 := by
      have h1 := numL_len8 (n := key.data.toList.length) (by rw [Array.length_toList]; show key.size ≤ _; omega)
      have h2 := numL_len8 (n := l.length) (by omega)
      have h3 : key.data.toList.length = key.size := by rw [Array.length_toList]; rfl
      rw [← hR2]
      unfold rowL textL
      simp only [List.length_append]
      omega
     clear HF hF hcall hR hR2
     go_wp2_with fail
     refine (HL.out _ (HR.out.alloc _)).mono ?_
     rintro e w2 ⟨v2, rfl, hown2, hbel2⟩
     have hb3 : Below w.heap.size w w2 := (HB.out.alloc hsz _).trans (hbel2.mono (by simp; omega))
     rw [HR2.out] at hown2
     obtain ⟨A3, c3, rfl, g3⟩ := own_shape hown2
     have HB3 := Lib.hid hb3
     clear hown2 hbel2 hb3 hx hy
     by_cases hroom : 250 < U + (1 + R)
     ·have E := Lib.hid (show fitN rs = k by have := HF2.out; rw [if_pos hroom] at this; exact this)
      have hroom' : (250 : Int) < (U : Int) + (1 + (R : Int)) := by omega
      clear HF2 HUT
      go_wp2
      go_ret
      rw [E.out]
      exact ⟨rfl, HB3.out⟩
     ·have hroom' : (U : Int) + (1 + (R : Int)) ≤ 250 := by omega
      have hF := HF2.out
      rw [if_neg hroom] at hF
      have HF3 := Lib.hid hF
      clear HF2 hF
      go_wp2
      go_roundw
      case rel => exact ⟨k + 1, by omega, by go_num, by rw [HUT.out]; go_num, by rw [HUT.out]; omega, by rw [HF3.out, HUT.out]; omega, HB3.out⟩
      case measure => simp [intOf]; omega
  ·have e : k = rs.length := by omega
   have E := Lib.hid (show fitN rs = rs.length by rw [hf, e, List.drop_length]; simp [fitF])
   have HB := Lib.hid hbel
   clear hf hbel hu
   go_wp2
   go_ret
   rw [E.out]
   exact ⟨rfl, HB.out⟩
end Go.Proofs.Ytmbkaedhllfoeaa
