/-
  TopicMatches: its walk.
-/
import Derived.Test.YthifpfdfepepoaaTpLaw2
import Derived.Test.YthifpfdfepepoaaTpName
set_option linter.unusedVariables false
namespace Go.Proofs.Ythifpfdfepepoaa
open Go.RowKit Go.Rst Go.Tp
theorem g_name {W : World} {cv : Value} {l : List UInt8} (wild : Bool) (h : RB W cv l) (w : World) (hw : GB W w) : Calls Try.prog 14 #[cv, .bool wild] w fun e w' => ∃ s : List UInt8, s.length ≤ 100 ∧ e = .returned (sv s) ∧ GB W w' :=
  (name_any wild (h.below hw)).mono fun e w' ⟨s, h1, h2, h3⟩ => ⟨s, h1, h2, hw.on h3⟩
set_option maxRecDepth 100000 in
set_option maxHeartbeats 3000000 in
theorem walk_matches (p t : List UInt8) (cv : Value) (lc : List UInt8) (dv : Value) (ld : List UInt8) (W : World) (hp : p.length ≤ reachBytes) (ht : t.length ≤ reachBytes) (hc : RB W cv lc) (hlc : lc.length ≤ 140737488351232) (hd : RB W dv ld) (hld : ld.length ≤ 140737488351232) :
    Calls Try.prog 4 #[sv p, sv t, cv, dv] W fun e w' => e = .returned (.bool true) ∧ Below W.heap.size W w' := by
  have hre : reachBytes ≤ 140737488351232 := by decide
  have hw : GB W W := GB.refl W
  have HC := Lib.hid hc
  have HD := Lib.hid hd
  obtain ⟨Ac, cc, rfl, _⟩ := id hc
  obtain ⟨Ad, cd, rfl, _⟩ := id hd
  clear hc hd
  have hk := known_any W
  go_enter Try.func4, Try.ntmps4
  have hsum : IntKind.i64.wrap ((p.length : Int) + (t.length : Int)) = (p.length : Int) + (t.length : Int) := by rw [IntKind.wrap_i64]; omega
  by_cases hbig : (300 : Int) < (p.length : Int) + (t.length : Int)
  · skip
    go_wp2_with fail
    go_at_call 9
    refine (hk _ hw).mono ?_
    rintro e w1 ⟨rfl, hb1⟩
    go_wp2
    go_ret
    exact ⟨rfl, hb1⟩
  · have hp3 : p.length ≤ 300 := by omega
    have ht3 : t.length ≤ 300 := by omega
    go_wp2_with fail
    go_at_call 9
    refine (hk _ hw).mono ?_
    rintro e w1 ⟨rfl, hb1⟩
    go_wp2_with fail
    go_at_call 14
    refine (g_name true HC.out _ hb1).mono ?_
    rintro e w2 ⟨a, ha, rfl, hb2⟩
    clear hb1
    go_wp2_with fail
    go_at_call 14
    refine (g_name false HD.out _ hb2).mono ?_
    rintro e w3 ⟨b, hb, rfl, hb3⟩
    clear hb2
    go_wp2_with fail
    go_at_call 15
    refine (matches_any W p t (by omega) (by omega) _ hb3).mono ?_
    rintro e w4 ⟨rfl, hb4⟩
    clear hb3
    go_wp2_with fail
    go_at_call 15
    refine (matches_any W a b (by omega) (by omega) _ hb4).mono ?_
    rintro e w5 ⟨rfl, hb5⟩
    clear hb4
    go_wp2_with fail
    go_at_call 15
    refine (matches_any W a t (by omega) (by omega) _ hb5).mono ?_
    rintro e w6 ⟨rfl, hb6⟩
    clear hb5
    go_wp2_with fail
    go_at_call 15
    refine (matches_any W p b (by omega) (by omega) _ hb6).mono ?_
    rintro e w7 ⟨rfl, hb7⟩
    clear hb6
    go_wp2_with fail
    go_at_call 14
    refine (g_name false HC.out _ hb7).mono ?_
    rintro e w8 ⟨d, hd, rfl, hb8⟩
    clear hb7
    go_wp2_with fail
    go_at_call 15
    refine (matches_any W d b (by omega) (by omega) _ hb8).mono ?_
    rintro e w9 ⟨rfl, hb9⟩
    clear hb8
    go_wp2_with fail
    go_at_call 15
    refine (matches_any W [35] b (by decide) (by omega) _ hb9).mono ?_
    rintro e w10 ⟨rfl, hb10⟩
    clear hb9
    go_wp2
    go_ret
    exact ⟨rfl, hb10⟩
end Go.Proofs.Ythifpfdfepepoaa
