/-
  DevNew returns true, and changes nothing that was there, for every int.
-/
import Derived.Test.YtpaahbohbnfibaaRefN
import Derived.Test.YtpaahbohbnfibaaOwn
import Derived.Test.YtpaahbohbnfibaaKnown
namespace Go.Proofs.Ytpaahbohbnfibaa
open Go.RowKit Go.Rst Go.Dv
set_option maxRecDepth 100000 in
set_option maxHeartbeats 1000000 in
theorem new_big (n : Int) (W : World) (h : 4097 < n) : Calls Try.prog 5 #[.int .i64 n] W fun e w' => e = .returned (.bool true) ∧ Below W.heap.size W w' := by
  have hm1 : 4097 < n := h
  have HR := Lib.hid (show (4097 : Int) < 0 ∨ 4096 < (4097 : Int) from .inr (by decide))
  have HN := Lib.hid (show n < 0 ∨ 4096 < n from .inr (by omega))
  clear h
  go_enter Try.func5, Try.ntmps5
  go_wp2_with fail
  go_at_call 17
  refine (refnew_no _ _ HR.out).mono ?_
  rintro e w1 ⟨rfl, hb⟩
  have HB1 := Lib.hid hb
  clear hb
  simp only [ts]
  go_wp2_with fail
  go_at_call 11
  refine (new_no n _ HN.out).mono ?_
  rintro e w2 ⟨rfl, rfl⟩
  go_wp2_with fail
  go_at_call 10
  refine (known_any _).mono ?_
  rintro e w3 ⟨rfl, hb⟩
  have HB3 := Lib.hid hb
  clear hb
  go_wp2
  go_ret
  exact ⟨rfl, (HB1.out.alloc HB1.out.size _).trans (HB3.out.mono (Nat.le_trans HB1.out.size (by simp)))⟩
set_option maxRecDepth 100000 in
set_option maxHeartbeats 1000000 in
theorem new_out (n : Int) (W : World) (h : n < 0 ∨ n = 4097) : Calls Try.prog 5 #[.int .i64 n] W fun e w' => e = .returned (.bool true) ∧ Below W.heap.size W w' := by
  have hm1 : ¬ 4097 < n := by omega
  have HR := Lib.hid (show n < 0 ∨ 4096 < n by omega)
  have HN := Lib.hid (show n < 0 ∨ 4096 < n by omega)
  clear h
  go_enter Try.func5, Try.ntmps5
  go_wp2_with fail
  go_at_call 17
  refine (refnew_no _ _ HR.out).mono ?_
  rintro e w1 ⟨rfl, hb⟩
  have HB1 := Lib.hid hb
  clear hb
  simp only [ts]
  go_wp2_with fail
  go_at_call 11
  refine (new_no n _ HN.out).mono ?_
  rintro e w2 ⟨rfl, rfl⟩
  go_wp2_with fail
  go_at_call 10
  refine (known_any _).mono ?_
  rintro e w3 ⟨rfl, hb⟩
  have HB3 := Lib.hid hb
  clear hb
  go_wp2
  go_ret
  exact ⟨rfl, (HB1.out.alloc HB1.out.size _).trans (HB3.out.mono (Nat.le_trans HB1.out.size (by simp)))⟩
set_option maxRecDepth 100000 in
set_option maxHeartbeats 1000000 in
theorem new_in (n : Nat) (W : World) (h : n ≤ 4096) : Calls Try.prog 5 #[.int .i64 (n : Int)] W fun e w' => e = .returned (.bool true) ∧ Below W.heap.size W w' := by
  have hm1 : ¬ 4097 < (n : Int) := by omega
  have HR := Lib.hid h
  clear h
  go_enter Try.func5, Try.ntmps5
  go_wp2_with fail
  go_at_call 17
  refine (refnew_any (A := fun _ => False) n _ HR.out (fun _ h => h.elim)).mono ?_
  rintro e w1 ⟨tv, rfl, ht, hb⟩
  obtain ⟨vS, vL, lf, rfl, q1, q2, q3⟩ := ht
  have e1 : (((Sim.new n).nw : Nat) : Int) = 0 := rfl
  have e2 : (((Sim.new n).nf : Nat) : Int) = 0 := rfl
  have e3 : (Sim.new n).fuse.isSome = false := rfl
  rw [e1, e2, e3]
  have o1 : vS.oneCell' = true := by obtain ⟨a, c, rfl, _⟩ := q1.shape; rfl
  have o2 : vL.oneCell' = true := by obtain ⟨a, c, rfl, _⟩ := q2.shape; rfl
  obtain ⟨a, c, rfl, _⟩ := q1.shape
  obtain ⟨a2, c2, rfl, _⟩ := q2.shape
  have e4 : (Sim.new n).firm.length = n := new_firm n
  have e5 : (Sim.new n).loose.length = 0 := rfl
  rw [e4, e5]
  clear q1 q2 q3 e1 e2 e3 e4 e5 o1 o2
  have HB1 := Lib.hid hb
  clear hb
  go_wp2_with fail
  go_at_call 11
  refine (own_new n _ HR.out (Nat.le_refl _)).mono ?_
  rintro e w2 ⟨gc, rfl, ho, hb⟩
  have HB2 := Lib.hid ((HB1.out.alloc HB1.out.size _).trans (hb.mono (Nat.le_trans HB1.out.size (by simp))))
  have HO := Lib.hid ho
  clear hb ho
  go_wp2_with fail
  go_at_call 10
  refine (known_any _).mono ?_
  rintro e w3 ⟨rfl, hb⟩
  have HB3 := Lib.hid (HB2.out.trans (hb.mono HB2.out.size))
  have HO3 := Lib.hid (HO.out.below hb)
  have HF := Lib.hid (new_firm n)
  clear hb
  go_wp2_with fail
  go_at_call 20
  refine (own_len HO3.out).mono ?_
  rw [HF.out]
  rintro e w4 ⟨rfl, rfl⟩
  go_wp2
  go_ret
  exact ⟨rfl, HB3.out⟩
theorem new_walk (n : Int) (W : World) (_ : (Lit.int .i64 n).wf = true) : Calls Try.prog 5 #[.int .i64 n] W fun e w' => e = .returned (.bool true) ∧ Below W.heap.size W w' := by
  by_cases h1 : 4097 < n
  · exact new_big n W h1
  by_cases h2 : n < 0 ∨ n = 4097
  · exact new_out n W h2
  obtain ⟨m, rfl⟩ := Int.eq_ofNat_of_zero_le (show 0 ≤ n by omega)
  exact new_in m W (by omega)
end Go.Proofs.Ytpaahbohbnfibaa
