/-
  The contract of the statements' own function gets: it answers true, at any place of any bytes, and changes nothing.
-/
import Derived.Test.YtjanggdjbieceaaRefC
import Derived.Test.YtjanggdjbieceaaTake
namespace Go.Proofs.Ytjanggdjbieceaa
open Go.RowKit Go.Rst

set_option maxRecDepth 100000 in
set_option maxHeartbeats 800000 in
theorem gets_any (v : Value) (l : List UInt8) (p most : Int) (w : World) (hv : RB w v l) : Calls Try.prog 29 #[v, .int .i64 p, .int .i64 most] w fun e w' => e = .returned (.bool true) ∧ w = w' := by
  have h1 := getNum_any v l p w hv
  have h2 := refGetNum_any v l p w hv
  have h3 := getText_any v l p most w hv
  have h4 := refGetText_any v l p most w hv
  have s1 := getNum_spec l p
  have s2 := getText_spec l p most
  generalize getNum l p = g at *
  generalize getText l p most = t at *
  obtain ⟨n, q, e1⟩ := g
  obtain ⟨s, q2, e2⟩ := t
  have b1 : 0 ≤ e1 ∧ e1 ≤ 11 := by simp only [] at s1; omega
  have b2 : 0 ≤ e2 ∧ e2 ≤ 11 := by simp only [] at s2; omega
  have H1 := Lib.hid h1
  have H2 := Lib.hid h2
  have H3 := Lib.hid h3
  have H4 := Lib.hid h4
  obtain ⟨b1a, b1b⟩ := b1
  obtain ⟨b2a, b2b⟩ := b2
  clear h1 h2 h3 h4 s1 s2
  obtain ⟨A, c, rfl, _⟩ := hv
  go_enter Try.func29, Try.ntmps29
  go_wp2_with fail
  refine H1.out.mono ?_
  rintro x w1 ⟨rfl, rfl⟩
  go_wp2_with fail
  refine H2.out.mono ?_
  rintro x w1 ⟨rfl, rfl⟩
  go_wp2_with fail
  refine H3.out.mono ?_
  rintro x w1 ⟨rfl, rfl⟩
  go_wp2_with fail
  refine H4.out.mono ?_
  rintro x w1 ⟨rfl, rfl⟩
  go_wp2
  go_ret
  exact ⟨rfl, rfl⟩
end Go.Proofs.Ytjanggdjbieceaa
