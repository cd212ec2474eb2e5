/-
  The contract of the statements' own builds: the program's Build and Rising are the document's.
-/
import Derived.Test.YtbacdeogggcbfaaKnown6
namespace Go.Proofs.Ytbacdeogggcbfaa
open Go.RowKit Go.Rst Go.Pg Go.Crc

set_option maxRecDepth 100000 in
set_option maxHeartbeats 1600000 in
theorem builds_any (v : Value) (rs : List Rw) (w : World) (hv : RR w v rs) :
    Calls Try.prog 9 #[v] w fun e w' => e = .returned (.bool true) ∧ Below w.heap.size w w' := by
  have HV := Lib.hid hv
  obtain ⟨A, c, rfl, hlc, hc63⟩ := rr_shape hv
  obtain ⟨ok, hok⟩ : ∃ ok, ok = (buildL rs).isSome := ⟨_, rfl⟩
  obtain ⟨pg, hpg⟩ : ∃ pg, pg = (buildL rs).getD [] := ⟨_, rfl⟩
  obtain ⟨ri, hri⟩ : ∃ ri, ri = risingL rs := ⟨_, rfl⟩
  have hB : ∀ (f : FuncId) (X : World) (args : Array Value), Calls Try.prog f args X (GivesBd X (buildL rs)) → Calls Try.prog f args X fun e w' => ∃ p, e = .returned (.tuple #[p, .bool ok]) ∧ OP 5 23 w' X.heap.size p pg ∧ Below X.heap.size X w' := by
    intro f X args h
    unfold GivesBd at h
    rw [← hok, ← hpg] at h
    exact h
  have h1 := hB _ _ _ (build_any _ rs w hv)
  have h2 := fun X (h : RR X (.slice A rs.length c) rs) => hB _ _ _ (refBuild_any _ rs X h)
  have h4 := fun X (h : RR X (.slice A rs.length c) rs) => rising_any _ rs X h
  have h5 := fun X (h : RR X (.slice A rs.length c) rs) => refRising_any _ rs X h
  rw [← hri] at h4 h5
  have H1 := Lib.hid h1
  have H2 := Lib.hid h2
  have H4 := Lib.hid h4
  have H5 := Lib.hid h5
  clear h1 h2 h4 h5 hB hok hpg hri hv
  have hbb : (ok == ok) = true := by simp
  have hbr : (ri == ri) = true := by simp
  go_enter Try.func9, Try.ntmps9
  go_wp2_with fail
  refine H1.out.mono ?_
  rintro e w1 ⟨p1, rfl, hp1, hb1⟩
  have K2 := Lib.hid (H2.out w1 (rr_below HV.out hb1 (Nat.le_refl _)))
  obtain ⟨A1, c1, rfl, _, _⟩ := hp1.shape
  have HP1 := Lib.hid hp1
  have HB1 := Lib.hid hb1
  clear hp1 hb1 H1
  go_wp2_with fail
  refine K2.out.mono ?_
  rintro e w2 ⟨p2, rfl, hp2, hb2⟩
  have HB2 := Lib.hid (HB1.out.trans (hb2.mono HB1.out.size))
  have K3 := Lib.hid (refSame_any _ _ pg w2 (HP1.out.below hb2).rp hp2.rp)
  obtain ⟨A2, c2, rfl, _, _⟩ := hp2.shape
  clear hp2 hb2 K2
  go_wp2_with fail
  refine K3.out.mono ?_
  rintro e w3 ⟨rfl, hb3⟩
  have HB3 := Lib.hid (HB2.out.trans (hb3.mono HB2.out.size))
  have K4 := Lib.hid (H4.out w3 (rr_below HV.out HB3.out (Nat.le_refl _)))
  clear hb3 K3
  go_wp2_with fail
  refine K4.out.mono ?_
  rintro e w4 ⟨rfl, hb4⟩
  have HB4 := Lib.hid (HB3.out.trans (hb4.mono HB3.out.size))
  have K5 := Lib.hid (H5.out w4 (rr_below HV.out HB4.out (Nat.le_refl _)))
  clear hb4 K4
  go_wp2_with fail
  refine K5.out.mono ?_
  rintro e w5 ⟨rfl, hb5⟩
  have HB5 := Lib.hid (HB4.out.trans (hb5.mono HB4.out.size))
  clear hb5 K5
  go_wp2
  go_ret
  exact ⟨rfl, HB5.out⟩
end Go.Proofs.Ytbacdeogggcbfaa
