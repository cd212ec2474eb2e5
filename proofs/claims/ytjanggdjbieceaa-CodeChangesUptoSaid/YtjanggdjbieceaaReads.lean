/-
  The contract of the statements' own function reads: it answers true of any bytes, and changes nothing that was there.
-/
import Derived.Test.YtjanggdjbieceaaRefF
import Derived.Test.YtjanggdjbieceaaSame
import Derived.Test.YtjanggdjbieceaaSameC
import Derived.Test.YtjanggdjbieceaaKnown
namespace Go.Proofs.Ytjanggdjbieceaa
open Go.RowKit Go.Rst

theorem rowsF_err (l : List UInt8) : ∀ (f : Nat) (q : Int) (acc : List (ByteArray × List UInt8)), 0 ≤ (rowsF l f q acc).2 ∧ (rowsF l f q acc).2 ≤ 11
  | 0, q, acc => by unfold rowsF; split <;> simp
  | f + 1, q, acc => by
    have h := getRow_err l q
    unfold rowsF
    split
    · simp only []; omega
    · exact rowsF_err l f _ _
theorem readRows_err (l : List UInt8) : 0 ≤ (readRows l).2 ∧ (readRows l).2 ≤ 11 := by
  have h := getNum_spec l 0
  unfold readRows
  split
  · simp only []; omega
  · split
    · simp
    · exact rowsF_err l _ _ _
theorem chgsF_err (l : List UInt8) : ∀ (f : Nat) (q : Int) (acc : List Chg), 0 ≤ (chgsF l f q acc).2 ∧ (chgsF l f q acc).2 ≤ 11
  | 0, q, acc => by unfold chgsF; split <;> simp
  | f + 1, q, acc => by
    have h := getChange_err l q
    unfold chgsF
    split
    · simp only []; omega
    · exact chgsF_err l f _ _
theorem readChgs_err (l : List UInt8) : 0 ≤ (readChgs l).2 ∧ (readChgs l).2 ≤ 11 := by
  have h := getNum_spec l 0
  unfold readChgs
  split
  · simp only []; omega
  · split
    · simp
    · exact chgsF_err l _ _ _

set_option maxRecDepth 100000 in
set_option maxHeartbeats 1600000 in
theorem reads_any (v : Value) (l : List UInt8) (w : World) (hv : RB w v l) : Calls Try.prog 27 #[v] w fun e w' => e = .returned (.bool true) ∧ Below w.heap.size w w' := by
  have c1 := fun W hW => readChgs_any v l W hW
  have c2 := fun W hW => refReadChgs_any v l W hW
  have c3 := fun W hW => readRows_any v l W hW
  have c4 := fun W hW => refReadRows_any v l W hW
  have ec := readChgs_err l
  have er := readRows_err l
  generalize readChgs l = rc at *
  generalize readRows l = rr at *
  obtain ⟨cs, e1⟩ := rc
  obtain ⟨rs, e2⟩ := rr
  simp only [] at ec er
  obtain ⟨ec1, ec2⟩ := ec
  obtain ⟨er1, er2⟩ := er
  have C1 := Lib.hid c1
  have C2 := Lib.hid c2
  have C3 := Lib.hid c3
  have C4 := Lib.hid c4
  have HV := Lib.hid hv
  obtain ⟨A, c, rfl, _⟩ := hv
  clear c1 c2 c3 c4
  go_enter Try.func27, Try.ntmps27
  go_wp2_with fail
  refine (C1.out _ HV.out).mono ?_
  rintro x w1 ⟨v1, rfl, ho1, hb1⟩
  have HO1 := Lib.hid ho1
  have HB1 := Lib.hid hb1
  clear ho1 hb1
  go_wp2_with fail
  refine (C2.out _ (HV.out.below HB1.out)).mono ?_
  rintro x w2 ⟨v2, rfl, ho2, hb2⟩
  have HO2 := Lib.hid ho2
  have HB2 : Hid (Below w.heap.size w w2) := Lib.hid (HB1.out.trans (hb2.mono HB1.out.size))
  have HR1 : Hid (RC w2 v1 cs) := Lib.hid (HO1.out.below hb2).rc
  clear ho2 hb2
  go_wp2_with fail
  refine (sameChgs_any _ _ cs _ HR1.out HO2.out.rc).mono ?_
  rintro x w3 ⟨rfl, m, rfl⟩
  have HB3 : Hid (Below w.heap.size w (w2.drewN m)) := Lib.hid ⟨HB2.out.os, HB2.out.tape, HB2.out.output, HB2.out.size, HB2.out.block⟩
  generalize w2.drewN m = w3 at *
  go_wp2_with fail
  refine (C3.out _ (HV.out.below HB3.out)).mono ?_
  rintro x w4 ⟨v4, rfl, ho4, hb4⟩
  have HO4 := Lib.hid ho4
  have HB4 : Hid (Below w.heap.size w w4) := Lib.hid (HB3.out.trans (hb4.mono HB3.out.size))
  clear ho4 hb4
  go_wp2_with fail
  refine (C4.out _ (HV.out.below HB4.out)).mono ?_
  rintro x w5 ⟨v5, rfl, ho5, hb5⟩
  have HO5 := Lib.hid ho5
  have HB5 : Hid (Below w.heap.size w w5) := Lib.hid (HB4.out.trans (hb5.mono HB4.out.size))
  have HR4 : Hid (RR w5 v4 rs) := Lib.hid (HO4.out.below hb5).rr
  clear ho5 hb5
  go_wp2_with fail
  refine (sameRows_any _ _ rs _ HR4.out HO5.out.rr).mono ?_
  rintro x w6 ⟨rfl, m2, rfl⟩
  go_wp2
  go_ret
  exact ⟨rfl, HB5.out.os, HB5.out.tape, HB5.out.output, HB5.out.size, HB5.out.block⟩
end Go.Proofs.Ytjanggdjbieceaa
