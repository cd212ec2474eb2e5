/-
 The contracts of the device's Len, has, passes, Traffic, Fuse and Spoil, for every device in memory.
-/
import Derived.Deep.QuietTactic
import Derived.BigQuiet
import Derived.Test.YtmbkaedhllfoeaaKVBI
set_option linter.unusedVariables false
namespace Go.Proofs.Ytmbkaedhllfoeaa
open Go.RowKit Go.Rst Go.Dv
set_option maxRecDepth 100000 in
set_option maxHeartbeats 400000 in
theorem len_any {D : Nat → Prop} {w : World} {v : Value} {s : Sim} (h : Dev D w v s) :
  Calls Try.prog 17 #[v] w fun e w' => e = .returned (.int .i64 (s.firm.length : Int)) ∧ w = w' := by
 obtain ⟨y, rfl, hr, _, _⟩ := h
 have c0 := hr.c0
 clear hr
 go_enter Try.func17, Try.ntmps17
 go_wp2
 go_ret
 exact ⟨rfl, rfl⟩
set_option maxRecDepth 100000 in
set_option maxHeartbeats 400000 in
theorem has_any {D : Nat → Prop} {w : World} {v : Value} {s : Sim} (i : Int) (h : Dev D w v s) :
  Calls Try.prog 119 #[v, .int .i64 i] w fun e w' => e = .returned (.bool (s.has i)) ∧ w = w' := by
 have H := Lib.hid h
 clear h
 by_cases h0 : 0 ≤ i
 ·have e : s.has i = decide (i < (s.firm.length : Int)) := by simp [Sim.has, h0]
  rw [e]
  clear e
  have hd : decide (0 ≤ i) = true := by simpa using h0
  go_enter Try.func119, Try.ntmps119
  go_wp2_with fail
  go_at_call 17
  refine (len_any H.out).mono ?_
  rintro e w' ⟨rfl, rfl⟩
  go_wp2
  go_ret
  exact ⟨rfl, rfl⟩
 ·have e : s.has i = false := by simp [Sim.has, h0]
  rw [e]
  clear e
  have hd : decide (0 ≤ i) = false := by simpa using h0
  go_enter Try.func119, Try.ntmps119
  go_wp2_with fail
  go_wp2
  go_ret
  exact ⟨rfl, rfl⟩
set_option maxRecDepth 100000 in
set_option maxHeartbeats 400000 in
theorem passes_any {D : Nat → Prop} {w : World} {v : Value} {s : Sim} (h : Dev D w v s) :
  Calls Try.prog 38 #[v] w fun e w' => e = .returned (.bool s.goes) ∧ Fr D w w' ∧ Dev D w' v (if s.goes then s.burnt else s) := by
 have H := Lib.hid h
 obtain ⟨y, rfl, hr, hok, hf⟩ := h
 have c3 := hr.c3
 have c4 := hr.c4
 have f4 := hr.bd.frozen 4
 have HR := Lib.hid hr
 clear hr
 cases hu : s.fuse with
 | none =>
  have e : s.goes = true := by simp [Sim.goes, hu]
  have e2 : s.burnt = s := by cases s; simp [Sim.burnt] at *; exact hu.symm ▸ rfl
  rw [e, e2]
  rw [hu] at c3
  have c3' : w.cell? ⟨y.g, 3, none⟩ = some (.bool false) := c3
  clear e e2 c3 hf hu hok
  go_enter Try.func38, Try.ntmps38
  go_wp2
  go_ret
  exact ⟨rfl, Fr.refl _ _, H.out⟩
 | some k =>
  rw [hu] at c3
  have c3' : w.cell? ⟨y.g, 3, none⟩ = some (.bool true) := c3
  have hlf := hf k hu
  rw [hlf] at c4
  have HF := Lib.hid hlf
  have HU := Lib.hid hu
  have HO := Lib.hid hok
  clear c3 hf hlf hu hok
  cases k with
  | zero =>
   have e : s.goes = false := by simp [Sim.goes, HU.out]
   rw [e]
   have c4' : w.cell? ⟨y.g, 4, none⟩ = some (.int .i64 0) := c4
   clear e c4
   go_enter Try.func38, Try.ntmps38
   go_wp2
   go_ret
   exact ⟨rfl, Fr.refl _ _, H.out⟩
  | succ k =>
   have e : s.goes = true := by simp [Sim.goes, HU.out]
   rw [e]
   have c4' : w.cell? ⟨y.g, 4, none⟩ = some (.int .i64 ((k : Int) + 1)) := by rw [c4]; rfl
   have hk : (0 : Int) ≤ (k : Int) := by omega
   have hk1 : (k : Int) ≤ 1000 := by have := HO.out.u _ HU.out; omega
   have hz : ((k : Int) + 1 == 0) = false := by simp; omega
   clear c4
   go_enter Try.func38, Try.ntmps38
   go_wp2
   go_ret
   refine ⟨rfl, (Fr.refl _ _).setCell (.inl HR.out.dg) _, { y with lf := (k : Int) }, rfl, ?_, HO.out.burnt, ?_⟩
   ·have := HR.out.setLeft (k : Int)
    try simp only [if_true]
    have e1 : s.burnt.fuse.isSome = s.fuse.isSome := by simp [Sim.burnt]
    rw [e1]
    exact this
   ·intro m hm
    simp [Sim.burnt, HU.out] at hm
    show (k : Int) = m
    omega
end Go.Proofs.Ytmbkaedhllfoeaa
