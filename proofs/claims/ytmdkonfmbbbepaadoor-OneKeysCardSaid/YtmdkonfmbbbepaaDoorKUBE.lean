/-
  The contract of the document's own message (layer state).; The contract of the document's own fields (layer state).; The contracts of the statements' own g and text (layer state).
-/
import Derived.Test.YtmdkonfmbbbepaaDoorKUBA
import Derived.Test.YtmdkonfmbbbepaaDoorKUBD
set_option linter.unusedVariables false
set_option linter.unusedVariables false
namespace Go.Proofs.YtmdkonfmbbbepaaDoor
open Go.RowKit Go.Rst Go.Tp Go.Ts
theorem below_two (w : World) (a b : Array Value) (t u : TypeId) : Below w.heap.size w ((w.alloc (.cells a t)).alloc (.cells b u)) := ((Below.refl _ w).alloc (Nat.le_refl _) _).alloc (by simp) _
end Go.Proofs.YtmdkonfmbbbepaaDoor
set_option linter.unusedVariables false
set_option linter.unusedSimpArgs false
namespace Go.Proofs.YtmdkonfmbbbepaaDoor
open Go.RowKit Go.Rst Go.Tp Go.Ts
structure BX (w : World) (g : Nat) (cs : List Value) : Prop where
  lt : g < w.heap.size
  at_ : ∀ i (h : i < cs.length), w.cell? ⟨g, i, none⟩ = some cs[i]
theorem BX.below {w w' : World} {g : Nat} {cs : List Value} (h : BX w g cs) (hb : Below w.heap.size w w') : BX w' g cs := ⟨Nat.lt_of_lt_of_le h.lt hb.size, fun i hi => (hb.cell (p := ⟨g, i, none⟩) h.lt).trans (h.at_ i hi)⟩
theorem BX.cell {w : World} {g : Nat} {cs : List Value} (h : BX w g cs) {i : Nat} (hi : i < cs.length) : w.cell? ⟨g, i, none⟩ = some cs[i] := h.at_ i hi
theorem BX.new (w : World) (cs : List Value) (t : TypeId) : BX (w.alloc (.cells cs.toArray t)) w.heap.size cs :=
  ⟨by simp, fun i hi => by rw [cell_of_row _ w.heap.size i cs.toArray t (0, 0) (heap_alloc_new w _)]; simp [hi]⟩
end Go.Proofs.YtmdkonfmbbbepaaDoor
set_option linter.unusedVariables false
namespace Go.Ts
def gN (l : List UInt8) (i : Nat) : Nat := ((l[i]?).getD 0).toNat
theorem gN_lt (l : List UInt8) (i : Nat) : gN l i < 256 := UInt8.toNat_lt _
def txtB (k i : Nat) : UInt8 := UInt8.ofNat (97 + (i + k) % 26)
def txt (k m : Nat) : List UInt8 := (List.range m).map (txtB k)
theorem txt_succ (k m : Nat) : txt k (m + 1) = txt k m ++ [txtB k m] := by simp [txt, List.range_succ]
theorem txt_len (k m : Nat) : (txt k m).length = m := by simp [txt]
theorem txtB_nat (k i : Nat) : (txtB k i).toNat = 97 + (i + k) % 26 := by
  unfold txtB
  rw [UInt8.toNat_ofNat']
  omega
end Go.Ts
namespace Go.Proofs.YtmdkonfmbbbepaaDoor
open Go.RowKit Go.Rst Go.Tp Go.Ts
set_option maxRecDepth 100000 in
theorem one_lit (w : World) (z : UInt8) : RB (w.alloc (.cells #[.int .u8 z.toNat] 5)) (.slice (some ⟨w.heap.size, 0, none⟩) 1 1) [z] := RB.lit w 5 (0, 0) [z] _ rfl 1 rfl (by decide)
set_option maxRecDepth 100000 in
theorem gN_any {cv : Value} {l : List UInt8} {w : World} (i : Nat) (h : RB w cv l) : Calls Tryd.prog 31 #[cv, .int .i64 i] w fun e w' => e = .returned (.int .i64 (gN l i)) ∧ w' = w := by
  have HV := Lib.hid h
  obtain ⟨A, c, rfl, _, hcm, _⟩ := id h
  clear h
  obtain ⟨r, hr⟩ : ∃ r, gN l i = r := ⟨_, rfl⟩
  rw [hr]
  by_cases hlt : i < l.length
  · obtain ⟨b, off, rfl, hb, hcell⟩ := rb_cell HV.out hlt
    unfold bv at hcell
    have hgr : l[i].toNat = r := by rw [← hr]; simp [gN, hlt]
    rw [hgr] at hcell
    have hrb : r < 256 := by rw [← hr]; exact gN_lt _ _
    have HR := Lib.hid hr
    clear hr hgr
    have q1 : (i : Int) < (l.length : Int) := by omega
    go_enter Tryd.func31, Tryd.ntmps31
    go_wp2
    go_ret
    exact ⟨rfl, rfl⟩
  · have hgr : r = 0 := by rw [← hr]; simp [gN, hlt]
    subst hgr
    have q1 : ¬ (i : Int) < (l.length : Int) := by omega
    clear hr
    go_enter Tryd.func31, Tryd.ntmps31
    go_wp2
    go_ret
    exact ⟨rfl, rfl⟩
set_option maxRecDepth 100000 in
set_option maxHeartbeats 4000000 in
theorem text_any (k most : Nat) (hk : k ≤ 100000) (hm : most ≤ 100000) (w : World) : Calls Tryd.prog 30 #[.int .i64 k, .int .i64 most] w fun e w' => e = .returned (sv (txt k (k % (most + 1)))) ∧ Below w.heap.size w w' := by
  obtain ⟨m, hm0⟩ : ∃ m, m = k % (most + 1) := ⟨_, rfl⟩
  have hml : m ≤ most := by have := Nat.mod_lt k (show most + 1 > 0 by omega); omega
  have e1 : (k : Int).tmod ((most : Int) + 1) = (m : Int) := by rw [hm0, Int.tmod_eq_emod_of_nonneg (by omega)]; simp
  have e2 : (k : Int) % ((most : Int) + 1) = (m : Int) := by rw [hm0]; simp
  rw [← hm0]
  clear hm0
  go_enter Tryd.func30, Tryd.ntmps30
  go_wp2_with fail
  go_loopw [5, 6] (fun s i wr => ∃ (j : Nat), j ≤ m ∧ i = .int .i64 j ∧ s = sv (txt k j) ∧ Below w.heap.size w wr) (fun _ i _ => m - (intOf i).toNat)
  case atStart => exact ⟨0, Nat.zero_le _, rfl, rfl, Below.refl _ _⟩
  case round =>
    obtain ⟨j, hj, rfl, rfl, hbel⟩ := hrel
    have HBl := Lib.hid hbel
    clear hbel
    have htl := txt_len k j
    by_cases hlt : j < m
    · have q1 : (j : Int) < (m : Int) := by omega
      have htn := txtB_nat k j
      have HTS := Lib.hid (txt_succ k j)
      obtain ⟨d, hd⟩ : ∃ d, d = (j + k) % 26 := ⟨_, rfl⟩
      have hd26 : d < 26 := by omega
      obtain ⟨z, hz⟩ : ∃ z, z = txtB k j := ⟨_, rfl⟩
      rw [← hz] at htn HTS
      rw [← hd] at htn
      have e3 : ((j : Int) + (k : Int)).tmod 26 = (d : Int) := by rw [Int.tmod_eq_emod_of_nonneg (by omega), hd]; omega
      have e4 : ((j : Int) + (k : Int)) % 26 = (d : Int) := by rw [hd]; omega
      have e5 : IntKind.u8.wrap (d : Int) = (d : Int) := by rw [IntKind.wrap_u8]; omega
      have e6 : IntKind.u8.wrap (97 + (d : Int)) = (z.toNat : Int) := by rw [htn, IntKind.wrap_u8]; omega
      have e7 : (97 + (d : Int)) % 256 = (z.toNat : Int) := by rw [htn]; omega
      obtain ⟨s, hs⟩ : ∃ s, s = txt k j := ⟨_, rfl⟩
      rw [← hs] at htl HTS ⊢
      have hct := ext_cat s [z]
      have hsl : s.length ≤ 100000 := by omega
      have hq := str22 (one_lit wr z)
      clear hd hz hs htn
      have HE := Lib.hid htl
      clear htl
      go_wp2
      go_roundw
      case rel => exact ⟨j + 1, by omega, by go_num, by rw [HTS.out], HBl.out.alloc HBl.out.size _⟩
      case measure => simp [intOf]; omega
    · have q1 : ¬ (j : Int) < (m : Int) := by omega
      have hjm : j = m := by omega
      have HJ := Lib.hid hjm
      clear hjm
      go_wp2
      go_ret
      exact ⟨by rw [HJ.out]; rfl, HBl.out⟩
end Go.Proofs.YtmdkonfmbbbepaaDoor
