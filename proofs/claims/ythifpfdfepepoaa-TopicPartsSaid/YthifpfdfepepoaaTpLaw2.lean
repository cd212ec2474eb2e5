/-
  The contracts of the statements' own matches and wants (layer topic).
-/
import Derived.Test.YthifpfdfepepoaaTpLaw
set_option linter.unusedVariables false
namespace Go.Proofs.Ythifpfdfepepoaa
open Go.RowKit Go.Rst Go.Tp
variable (W : World)
set_option maxRecDepth 100000 in
set_option maxHeartbeats 1600000 in
theorem matches_any (p t : List UInt8) (hp : p.length ≤ 1000000) (ht : t.length ≤ 1000000) : GivesB W 15 #[sv p, sv t] true := by
  intro w hw
  have h1 := g_right W t
  have h2 := r_right W t ht
  have h3 := g_pat W p
  have h4 := r_pat W p hp
  have h5 := g_match W p t (by omega) (by omega)
  have h6 := r_match W p t hp ht
  generalize rightB t = x at *
  generalize patB p = y at *
  generalize matB p t = z at *
  go_enter Try.func15, Try.ntmps15
  go_wp2_with fail
  go_at_call 11
  refine (h1 _ hw).mono ?_
  rintro e w1 ⟨rfl, hb1⟩
  go_wp2_with fail
  go_at_call 22
  refine (h2 _ hb1).mono ?_
  rintro e w2 ⟨rfl, hb2⟩
  clear hb1
  go_wp2_with fail
  go_at_call 13
  refine (h3 _ hb2).mono ?_
  rintro e w3 ⟨rfl, hb3⟩
  clear hb2
  go_wp2_with fail
  go_at_call 23
  refine (h4 _ hb3).mono ?_
  rintro e w4 ⟨rfl, hb4⟩
  clear hb3
  go_wp2_with fail
  go_at_call 10
  refine (h5 _ hb4).mono ?_
  rintro e w5 ⟨rfl, hb5⟩
  clear hb4
  go_wp2_with fail
  go_at_call 24
  refine (h6 _ hb5).mono ?_
  rintro e w6 ⟨rfl, hb6⟩
  clear hb5
  go_wp2
  go_ret
  exact ⟨rfl, hb6⟩
set_option maxRecDepth 100000 in
set_option maxHeartbeats 1600000 in
theorem wants_any (a b : List UInt8) (ha : a.length ≤ 1000000) (hb : b.length ≤ 1000000) : GivesB W 16 #[sv a, sv b] true := by
  intro w hw
  have h1 := g_attrs W a
  have h2 := r_attrs W a ha
  have h3 := g_attrs W b
  have h4 := r_attrs W b hb
  have h5 := g_want W a b
  have h6 := r_want W a b ha hb
  generalize attrsB a = x at *
  generalize attrsB b = y at *
  generalize wantB a b = z at *
  go_enter Try.func16, Try.ntmps16
  go_wp2_with fail
  go_at_call 12
  refine (h1 _ hw).mono ?_
  rintro e w1 ⟨rfl, hb1⟩
  go_wp2_with fail
  go_at_call 25
  refine (h2 _ hb1).mono ?_
  rintro e w2 ⟨rfl, hb2⟩
  clear hb1
  go_wp2_with fail
  go_at_call 12
  refine (h3 _ hb2).mono ?_
  rintro e w3 ⟨rfl, hb3⟩
  clear hb2
  go_wp2_with fail
  go_at_call 25
  refine (h4 _ hb3).mono ?_
  rintro e w4 ⟨rfl, hb4⟩
  clear hb3
  go_wp2_with fail
  go_at_call 18
  refine (h5 _ hb4).mono ?_
  rintro e w5 ⟨rfl, hb5⟩
  clear hb4
  go_wp2_with fail
  go_at_call 26
  refine (h6 _ hb5).mono ?_
  rintro e w6 ⟨rfl, hb6⟩
  clear hb5
  go_wp2
  go_ret
  exact ⟨rfl, hb6⟩
end Go.Proofs.Ythifpfdfepepoaa
