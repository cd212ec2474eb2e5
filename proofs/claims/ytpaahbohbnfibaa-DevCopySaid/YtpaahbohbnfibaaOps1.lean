/-
  The contracts of the device's Len, has, passes, Traffic, Fuse and Spoil, for every device in memory.
-/
import Derived.Test.YtpaahbohbnfibaaMem
import Derived.Deep.QuietTactic
import Derived.BigQuiet
namespace Go.Proofs.Ytpaahbohbnfibaa
open Go.RowKit Go.Rst Go.Dv

set_option maxRecDepth 100000 in
set_option maxHeartbeats 400000 in
theorem len_any {D : Nat → Prop} {w : World} {v : Value} {s : Sim} (h : Dev D w v s) :
    Calls Try.prog 20 #[v] w fun e w' => e = .returned (.int .i64 (s.firm.length : Int)) ∧ w = w' := by
  obtain ⟨y, rfl, hr, _, _⟩ := h
  have c0 := hr.c0
  clear hr
  go_enter Try.func20, Try.ntmps20
  go_wp2
  go_ret
  exact ⟨rfl, rfl⟩
set_option maxRecDepth 100000 in
set_option maxHeartbeats 400000 in
theorem has_any {D : Nat → Prop} {w : World} {v : Value} {s : Sim} (i : Int) (h : Dev D w v s) :
    Calls Try.prog 26 #[v, .int .i64 i] w fun e w' => e = .returned (.bool (s.has i)) ∧ w = w' := by
  have H := Lib.hid h
  clear h
  by_cases h0 : 0 ≤ i
  · have e : s.has i = decide (i < (s.firm.length : Int)) := by simp [Sim.has, h0]
    rw [e]
    clear e
    have hd : decide (0 ≤ i) = true := by simpa using h0
    go_enter Try.func26, Try.ntmps26
    go_wp2_with fail
    go_at_call 20
    refine (len_any H.out).mono ?_
    rintro e w' ⟨rfl, rfl⟩
    go_wp2
    go_ret
    exact ⟨rfl, rfl⟩
  · have e : s.has i = false := by simp [Sim.has, h0]
    rw [e]
    clear e
    have hd : decide (0 ≤ i) = false := by simpa using h0
    go_enter Try.func26, Try.ntmps26
    go_wp2_with fail
    go_wp2
    go_ret
    exact ⟨rfl, rfl⟩
set_option maxRecDepth 100000 in
set_option maxHeartbeats 400000 in
theorem passes_any {D : Nat → Prop} {w : World} {v : Value} {s : Sim} (h : Dev D w v s) :
    Calls Try.prog 27 #[v] w fun e w' => e = .returned (.bool s.goes) ∧ Fr D w w' ∧ Dev D w' v (if s.goes then s.burnt else s) := by
  have H := Lib.hid h
  obtain ⟨y, rfl, hr, hok, hf⟩ := h
  have c3 := hr.c3
  have c4 := hr.c4
  have f4 := hr.bd.frozen 4
  have HR := Lib.hid hr
  clear hr
  cases hu : s.fuse with
  | none =>
    have e : s.goes = true := by simp [Sim.goes, hu]
    have e2 : s.burnt = s := by cases s; simp [Sim.burnt] at *; exact hu.symm ▸ rfl
    rw [e, e2]
    rw [hu] at c3
    have c3' : w.cell? ⟨y.g, 3, none⟩ = some (.bool false) := c3
    clear e e2 c3 hf hu hok
    go_enter Try.func27, Try.ntmps27
    go_wp2
    go_ret
    exact ⟨rfl, Fr.refl _ _, H.out⟩
  | some k =>
    rw [hu] at c3
    have c3' : w.cell? ⟨y.g, 3, none⟩ = some (.bool true) := c3
    have hlf := hf k hu
    rw [hlf] at c4
    have HF := Lib.hid hlf
    have HU := Lib.hid hu
    have HO := Lib.hid hok
    clear c3 hf hlf hu hok
    cases k with
    | zero =>
      have e : s.goes = false := by simp [Sim.goes, HU.out]
      rw [e]
      have c4' : w.cell? ⟨y.g, 4, none⟩ = some (.int .i64 0) := c4
      clear e c4
      go_enter Try.func27, Try.ntmps27
      go_wp2
      go_ret
      exact ⟨rfl, Fr.refl _ _, H.out⟩
    | succ k =>
      have e : s.goes = true := by simp [Sim.goes, HU.out]
      rw [e]
      have c4' : w.cell? ⟨y.g, 4, none⟩ = some (.int .i64 ((k : Int) + 1)) := by rw [c4]; rfl
      have hk : (0 : Int) ≤ (k : Int) := by omega
      have hk1 : (k : Int) ≤ 1000 := by have := HO.out.u _ HU.out; omega
      have hz : ((k : Int) + 1 == 0) = false := by simp; omega
      clear c4
      go_enter Try.func27, Try.ntmps27
      go_wp2
      go_ret
      refine ⟨rfl, (Fr.refl _ _).setCell (.inl HR.out.dg) _, { y with lf := (k : Int) }, rfl, ?_, HO.out.burnt, ?_⟩
      · have := HR.out.setLeft (k : Int)
        try simp only [if_true]
        have e1 : s.burnt.fuse.isSome = s.fuse.isSome := by simp [Sim.burnt]
        rw [e1]
        exact this
      · intro m hm
        simp [Sim.burnt, HU.out] at hm
        show (k : Int) = m
        omega
set_option maxRecDepth 100000 in
set_option maxHeartbeats 400000 in
theorem traffic_any {D : Nat → Prop} {w : World} {v : Value} {s : Sim} (h : Dev D w v s) :
    Calls Try.prog 25 #[v] w fun e w' => e = .returned (.complex .f64 (fb s.nw) (fb s.nf)) ∧ w = w' := by
  obtain ⟨y, rfl, hr, _, _⟩ := h
  have c5 := hr.c5
  clear hr
  go_enter Try.func25, Try.ntmps25
  go_wp2
  go_ret
  exact ⟨rfl, rfl⟩
set_option maxRecDepth 100000 in
set_option maxHeartbeats 400000 in
theorem fuse_any {D : Nat → Prop} {w : World} {v : Value} {s : Sim} (n : Int) (hn : n ≤ 1000) (h : Dev D w v s) :
    Calls Try.prog 23 #[v, .int .i64 n] w fun e w' => e = .returned (.tuple #[]) ∧ Fr D w w' ∧ Dev D w' v (s.setFuse n) := by
  have H := Lib.hid h
  obtain ⟨y, rfl, hr, hok, hf⟩ := h
  have c3 := hr.c3
  have c4 := hr.c4
  have f4 := hr.bd.frozen 4
  have f3 := hr.bd.frozen 3
  have HR := Lib.hid hr
  have HO := Lib.hid hok
  have fin : s.goes = true → Dev D ((w.setCell ⟨y.g, 3, none⟩ (.bool (decide (0 ≤ n)))).setCell ⟨y.g, 4, none⟩ (.int .i64 n)) (.pointer (some ⟨y.g, 0, none⟩)) (s.setFuse n) := by
    intro hg
    refine ⟨{ y with lf := n }, rfl, ?_, hok.setFuse n hn, ?_⟩
    · have := (hr.setFlag (decide (0 ≤ n))).setLeft n
      have e1 : (s.setFuse n).fuse.isSome = decide (0 ≤ n) := by
        simp only [Sim.setFuse, hg, if_true]
        by_cases h0 : 0 ≤ n <;> simp [h0]
      have e2 : (s.setFuse n).firm = s.firm := by simp [Sim.setFuse, hg]
      have e3 : (s.setFuse n).loose = s.loose := by simp [Sim.setFuse, hg]
      have e4 : (s.setFuse n).nw = s.nw := by simp [Sim.setFuse, hg]
      have e5 : (s.setFuse n).nf = s.nf := by simp [Sim.setFuse, hg]
      rw [e1, e2, e3, e4, e5]
      exact this
    · intro k hk
      simp only [Sim.setFuse, hg, if_true] at hk
      by_cases h0 : 0 ≤ n
      · rw [if_pos h0] at hk; injection hk with hk; show n = _; omega
      · rw [if_neg h0] at hk; cases hk
  have HF := Lib.hid fin
  clear fin
  have hb : (-9223372036854775808 : Int) ≤ -9223372036854775808 := Int.le_refl _
  clear hb
  have fr : Fr D w ((w.setCell ⟨y.g, 3, none⟩ (.bool (decide (0 ≤ n)))).setCell ⟨y.g, 4, none⟩ (.int .i64 n)) := ((Fr.refl _ _).setCell (.inl hr.dg) _).setCell (.inl hr.dg) _
  have HFr := Lib.hid fr
  clear hr hok fr
  cases hu : s.fuse with
  | none =>
    rw [hu] at c3
    have c3' : w.cell? ⟨y.g, 3, none⟩ = some (.bool false) := c3
    have HG := Lib.hid (show s.goes = true by simp [Sim.goes, hu])
    clear c3 hf hu
    go_enter Try.func23, Try.ntmps23
    go_wp2
    go_end0
    exact ⟨rfl, HFr.out, HF.out HG.out⟩
  | some k =>
    rw [hu] at c3
    have c3' : w.cell? ⟨y.g, 3, none⟩ = some (.bool true) := c3
    have hlf := hf k hu
    rw [hlf] at c4
    have HU := Lib.hid hu
    clear c3 hf hlf hu
    cases k with
    | zero =>
      have c4' : w.cell? ⟨y.g, 4, none⟩ = some (.int .i64 0) := c4
      clear c4
      have HS := Lib.hid (show s.setFuse n = s by simp [Sim.setFuse, Sim.goes, HU.out])
      go_enter Try.func23, Try.ntmps23
      go_wp2
      refine bodyPost_ret (v := .tuple #[]) (results_none rfl _ _ _) rfl ?_
      exact ⟨rfl, Fr.refl _ _, by rw [HS.out]; exact H.out⟩
    | succ k =>
      have HG := Lib.hid (show s.goes = true by simp [Sim.goes, HU.out])
      have c4' : w.cell? ⟨y.g, 4, none⟩ = some (.int .i64 ((k : Int) + 1)) := by rw [c4]; rfl
      have hz : ((k : Int) + 1 == 0) = false := by simp; omega
      clear c4
      go_enter Try.func23, Try.ntmps23
      go_wp2
      go_end0
      exact ⟨rfl, HFr.out, HF.out HG.out⟩
set_option maxRecDepth 100000 in
set_option maxHeartbeats 400000 in
theorem spoil_any {D : Nat → Prop} {w : World} {v : Value} {s : Sim} (i a : Int) (b : UInt8) (h : Dev D w v s) :
    Calls Try.prog 24 #[v, .int .i64 i, .int .i64 a, bv b] w fun e w' => e = .returned (.bool (s.can i a)) ∧ Fr D w w' ∧ Dev D w' v (s.spoil i a b) := by
  have H := Lib.hid h
  obtain ⟨y, rfl, hr, hok, hf⟩ := h
  have c0 := hr.c0
  have HR := Lib.hid hr
  have HO := Lib.hid hok
  have HFu := Lib.hid hf
  clear hf
  by_cases hc : s.can i a = true
  · have hc2 := hc
    simp only [Sim.can, Bool.and_eq_true, decide_eq_true_eq, Sim.has_iff] at hc2
    obtain ⟨⟨⟨i0, i1⟩, a0⟩, a1⟩ := hc2
    have hhas : s.has i = true := Sim.has_iff.2 ⟨i0, i1⟩
    obtain ⟨k, rfl⟩ : ∃ k : Nat, i = (k : Int) := ⟨i.toNat, by omega⟩
    obtain ⟨j, rfl⟩ : ∃ j : Nat, a = (j : Int) := ⟨a.toNat, by omega⟩
    have hk : k < s.firm.length := by omega
    have hj : j < 64 := by omega
    have hth := hr.firmThere hok.f hk j hj
    have hff := hth.2
    obtain ⟨x, hx⟩ := Option.isSome_iff_exists.1 hth.1
    have e : s.spoil k j b = { s with firm := s.firm.set k ((s.firm.getD k []).set j b) } := by simp [Sim.spoil, hc]
    have HE := Lib.hid e
    rw [hc]
    have HC := Lib.hid hc
    have HH := Lib.hid hhas
    clear hr hok e hc hth hhas
    have ja : decide ((j : Int) < 0) = false := by simp
    have jb : decide (64 ≤ (j : Int)) = false := by simp; omega
    unfold bv
    go_enter Try.func24, Try.ntmps24
    go_wp2_with fail
    go_at_call 26
    refine (has_any _ H.out).mono ?_
    rintro e w' ⟨rfl, rfl⟩
    rw [HH.out]
    go_wp2
    go_ret
    refine ⟨rfl, (Fr.refl _ _).setCell (.inl HR.out.dF) _, ?_⟩
    rw [HE.out]
    refine ⟨y, rfl, ?_, HE.out ▸ HO.out.spoil _ _ _, HFu.out⟩
    have := HR.out.setByte HO.out.f hk hj b
    show Raw D _ y (s.firm.set k ((s.firm.getD k []).set j b)) s.loose (newL (s.firm.set k ((s.firm.getD k []).set j b)).length s.loose) s.fuse.isSome s.nw s.nf
    rw [List.length_set]
    exact this
  · have hc' : s.can i a = false := by simpa using hc
    have HE := Lib.hid (show s.spoil i a b = s by simp [Sim.spoil, hc'])
    rw [hc']
    clear hr hok c0
    have hh : s.has i = false ∨ (s.has i = true ∧ a < 0) ∨ (s.has i = true ∧ 64 ≤ a) := by
      cases hq : s.has i with
      | false => exact .inl rfl
      | true =>
        by_cases h1 : a < 0
        · exact .inr (.inl ⟨rfl, h1⟩)
        · by_cases h2 : 64 ≤ a
          · exact .inr (.inr ⟨rfl, h2⟩)
          · exact absurd (by simp [Sim.can, hq]; omega : s.can i a = true) hc
    clear hc hc'
    unfold bv
    rcases hh with hh | ⟨hh, ha⟩ | ⟨hh, ha⟩
    all_goals
      have HH := Lib.hid hh
      clear hh
      go_enter Try.func24, Try.ntmps24
      go_wp2_with fail
      go_at_call 26
      refine (has_any _ H.out).mono ?_
      rintro e w' ⟨rfl, rfl⟩
      rw [HH.out]
      go_wp2
      all_goals
        go_ret
        exact ⟨rfl, Fr.refl _ _, by rw [HE.out]; exact H.out⟩
end Go.Proofs.Ytpaahbohbnfibaa
