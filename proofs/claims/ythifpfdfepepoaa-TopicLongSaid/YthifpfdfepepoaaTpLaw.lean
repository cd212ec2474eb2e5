/-
  The contracts of topic's functions at a fixed base, and of the statements' own known (layer topic).
-/
import Derived.Test.YthifpfdfepepoaaTpHasP
import Derived.Test.YthifpfdfepepoaaTpWant
set_option linter.unusedVariables false
namespace Go.Proofs.Ythifpfdfepepoaa
open Go.RowKit Go.Rst Go.Tp
/-- What lay there at the start lies as it lay. -/
def GB (W w : World) : Prop := Below W.heap.size W w
theorem GB.refl (W : World) : GB W W := Below.refl _ _
theorem GB.on {W w w' : World} (h : GB W w) (hb : Below w.heap.size w w') : GB W w' := Below.trans h (hb.mono (Below.size h))
theorem GB.alloc {W w : World} (h : GB W w) (o : Obj) : GB W (w.alloc o) := h.on ((Below.refl _ w).alloc (Nat.le_refl _) _)
theorem GB.drew {W w : World} (h : GB W w) : GB W w.drew := h.on (Below.refl _ w).drew
/-- A call hands back a bool, and what lay there lies as it lay. -/
def GivesB (W : World) (f : Nat) (args : Array Value) (b : Bool) : Prop := ∀ w, GB W w → Calls Try.prog f args w fun e w' => e = .returned (.bool b) ∧ GB W w'
theorem gives {W : World} {f : Nat} {args : Array Value} {b : Bool} (h : ∀ w, Calls Try.prog f args w fun e w' => e = .returned (.bool b) ∧ Below w.heap.size w w') : GivesB W f args b :=
  fun w hw => (h w).mono fun e w' h => ⟨h.1, hw.on h.2⟩
variable (W : World)
theorem g_match (p t : List UInt8) (hp : p.length ≤ 1000000000) (ht : t.length ≤ 1000000000) : GivesB W 10 #[sv p, sv t] (matB p t) := gives (matchP_any p t hp ht)
theorem g_right (t : List UInt8) : GivesB W 11 #[sv t] (rightB t) := gives (rightP_any t)
theorem g_pat (t : List UInt8) : GivesB W 13 #[sv t] (patB t) := gives (patP_any t)
theorem g_attrs (t : List UInt8) : GivesB W 12 #[sv t] (attrsB t) := gives (attrsP_any t)
theorem g_want (a b : List UInt8) : GivesB W 18 #[sv a, sv b] (wantB a b) := gives (wantP_any a b)
theorem r_match (p t : List UInt8) (hp : p.length ≤ 1000000) (ht : t.length ≤ 1000000) : GivesB W 24 #[sv p, sv t] (matB p t) := gives (match_any p t hp ht)
theorem r_right (t : List UInt8) (ht : t.length ≤ 1000000) : GivesB W 22 #[sv t] (rightB t) := gives (right_any t ht)
theorem r_pat (t : List UInt8) (ht : t.length ≤ 1000000) : GivesB W 23 #[sv t] (patB t) := gives (pat_any t ht)
theorem r_attrs (t : List UInt8) (ht : t.length ≤ 1000000) : GivesB W 25 #[sv t] (attrsB t) := gives (attrs_any t ht)
theorem r_want (a b : List UInt8) (ha : a.length ≤ 1000000) (hb : b.length ≤ 1000000) : GivesB W 26 #[sv a, sv b] (wantB a b) := gives (want_any a b ha hb)
set_option maxRecDepth 100000 in
set_option maxHeartbeats 1600000 in
theorem known_any : GivesB W 9 #[] true := by
  intro w hw
  have h1 : GivesB W 10 #[.string ⟨#[97, 47, 43]⟩, .string ⟨#[97, 47, 98]⟩] true := g_match W [97, 47, 43] [97, 47, 98] (by decide) (by decide)
  have h2 : GivesB W 10 #[.string ⟨#[97, 47, 35]⟩, .string ⟨#[97]⟩] false := g_match W [97, 47, 35] [97] (by decide) (by decide)
  have h3 : GivesB W 18 #[.string ⟨#[]⟩, .string ⟨#[97, 61, 49]⟩] true := g_want W [] [97, 61, 49]
  have h4 : GivesB W 18 #[.string ⟨#[97, 61, 49]⟩, .string ⟨#[]⟩] false := g_want W [97, 61, 49] []
  have h5 : GivesB W 11 #[.string ⟨#[]⟩] false := g_right W []
  have h6 : GivesB W 13 #[.string ⟨#[35]⟩] true := g_pat W [35]
  go_enter Try.func9, Try.ntmps9
  go_wp2_with fail
  go_at_call 10
  refine (h1 _ hw).mono ?_
  rintro e w1 ⟨rfl, hb1⟩
  go_wp2_with fail
  go_at_call 10
  refine (h2 _ hb1).mono ?_
  rintro e w2 ⟨rfl, hb2⟩
  clear hb1
  go_wp2_with fail
  go_at_call 18
  refine (h3 _ hb2).mono ?_
  rintro e w3 ⟨rfl, hb3⟩
  clear hb2
  go_wp2_with fail
  go_at_call 18
  refine (h4 _ hb3).mono ?_
  rintro e w4 ⟨rfl, hb4⟩
  clear hb3
  go_wp2_with fail
  go_at_call 11
  refine (h5 _ hb4).mono ?_
  rintro e w5 ⟨rfl, hb5⟩
  clear hb4
  go_wp2_with fail
  go_at_call 13
  refine (h6 _ hb5).mono ?_
  rintro e w6 ⟨rfl, hb6⟩
  clear hb5
  clear h1 h2 h3 h4 h5 h6
  go_wp2
  go_ret
  exact ⟨rfl, hb6⟩
end Go.Proofs.Ythifpfdfepepoaa
