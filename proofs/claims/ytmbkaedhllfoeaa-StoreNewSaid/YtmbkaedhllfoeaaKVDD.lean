/-
 The contract of the store's fit: has an area room for rows?
-/
import Derived.Test.YtmbkaedhllfoeaaKVCA
import Derived.Test.YtmbkaedhllfoeaaKVDC
set_option linter.unusedVariables false
namespace Go.Proofs.Ytmbkaedhllfoeaa
open Go.RowKit Go.Rst Go.Dv Go.Str Go.Pg Go.Crc
def fitB (n : Nat) (rs : List Rw) : Bool := match buildL rs with
 | some ps => decide (ps.length ≤ aN n)
 | none => false
set_option maxRecDepth 100000 in
set_option maxHeartbeats 400000 in
theorem sfit_any {D : Nat → Prop} {w : World} {v : Value} {s : Sim} (h : Dev D w v s) (lv : Value) (rs : List Rw) (hr : RR w lv rs) :
  Calls Try.prog 29 #[dv v, lv] w fun e w' => e = .returned (.bool (fitB s.firm.length rs)) ∧ Below w.heap.size w w' := by
 have HN := h.ok.n
 have H := Lib.hid h
 have HRR := Lib.hid hr
 obtain ⟨y, rfl, _⟩ := h
 obtain ⟨n, hn⟩ : ∃ n, n = s.firm.length := ⟨_, rfl⟩
 have hlen := len_any H.out
 rw [← hn] at hlen HN ⊢
 have HL := Lib.hid hlen
 have hlay := layout_any (n : Int) (by omega) (by omega) w
 rw [layJ_nat, layA_nat] at hlay
 have HY := Lib.hid hlay
 have HBd := Lib.hid (build_any lv rs w hr)
 clear hlen hlay hn hr
 cases hb : buildL rs with
 | none =>
  have HB := Lib.hid hb
  have e : fitB n rs = false := by unfold fitB; rw [hb]
  rw [e]
  clear hb e
  go_enter Try.func29, Try.ntmps29
  go_wp2_with (first | (go_at_call 17; refine HL.out.mono ?_; rintro e w1 ⟨rfl, rfl⟩) | (go_at_call 18; refine HY.out.mono ?_; rintro e w1 ⟨rfl, rfl⟩) | (go_at_call 40; refine HBd.out.mono ?_; rintro e w1 ⟨p, rfl, hop, hb1⟩; rw [HB.out] at hop ⊢; have HB1 := Lib.hid hb1; clear hop hb1; simp only [Option.isSome]))
  go_ret
  exact ⟨rfl, HB1.out⟩
 | some ps =>
  have HB := Lib.hid hb
  have e : fitB n rs = decide (ps.length ≤ aN n) := by unfold fitB; rw [hb]
  rw [e]
  clear hb e
  go_enter Try.func29, Try.ntmps29
  go_wp2_with (first | (go_at_call 17; refine HL.out.mono ?_; rintro e w1 ⟨rfl, rfl⟩) | (go_at_call 18; refine HY.out.mono ?_; rintro e w1 ⟨rfl, rfl⟩) | (go_at_call 40; refine HBd.out.mono ?_; rintro e w1 ⟨p, rfl, hop, hb1⟩; rw [HB.out] at hop ⊢; have HB1 := Lib.hid hb1; obtain ⟨A, c, rfl, hc1, hc2⟩ := hop.shape; clear hop hb1; simp only [Option.isSome, Option.getD_some] at *))
  go_ret
  exact ⟨rfl, HB1.out⟩
end Go.Proofs.Ytmbkaedhllfoeaa
