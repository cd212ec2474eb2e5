/-
  The contract of the reference's GetText: it tells what the plain function getText tells, at any place of any bytes.
-/
import Derived.Test.YtomkbgghljcbfaaRefB
namespace Go.Proofs.Ytomkbgghljcbfaa
open Go.RowKit Go.Rst

set_option maxRecDepth 100000 in
set_option maxHeartbeats 800000 in
theorem refGetText_any (v : Value) (l : List UInt8) (p most : Int) (w : World) (hv : RB w v l) : Calls Try.prog 96 #[v, .int .i64 p, .int .i64 most] w fun e w' => e = .returned (.tuple #[.string ⟨(getText l p most).1.toArray⟩, .int .i64 (getText l p most).2.1, .int .i64 (getText l p most).2.2]) ∧ w = w' := by
  have hv0 := hv
  obtain ⟨A, c, rfl, hlc, hc, hcells⟩ := hv
  have HC := Lib.hid hcells
  clear hcells
  unfold maxLen at hc
  have hspec := getNum_spec l p
  obtain ⟨n, q, er, hg⟩ : ∃ n q er, getNum l p = (n, q, er) := ⟨_, _, _, rfl⟩
  have HG := Lib.hid hg
  have hcall := refGetNum_any _ l p w hv0
  rw [hg] at hcall hspec
  have HK := Lib.hid hcall
  have HV := Lib.hid hv0
  clear hg hcall hv0
  rcases hspec with ⟨rfl, h1, h2, h3, h4, h5⟩ | ⟨her, rfl, rfl⟩
  · replace h4 : p < q := h4
    replace h5 : q ≤ l.length := h5
    replace h1 : 0 ≤ n := h1
    replace h2 : n ≤ 9007199254740992 := h2
    by_cases hm : most < n
    · have E := Lib.hid (show getText l p most = ([], 0, 3) by unfold getText; rw [HG.out]; simp [hm])
      go_enter Try.func96, Try.ntmps96
      go_wp2_with fail
      refine HK.out.mono ?_
      rintro x w1 ⟨rfl, rfl⟩
      go_wp2
      go_ret3
      rw [E.out]
      exact ⟨rfl, rfl⟩
    · by_cases hs : (l.length : Int) - q < n
      · have E := Lib.hid (show getText l p most = ([], 0, 10) by unfold getText; rw [HG.out]; simp [hm, hs])
        go_enter Try.func96, Try.ntmps96
        go_wp2_with fail
        refine HK.out.mono ?_
        rintro x w1 ⟨rfl, rfl⟩
        go_wp2
        go_ret3
        rw [E.out]
        exact ⟨rfl, rfl⟩
      · have E := Lib.hid (show getText l p most = ((l.drop q.toNat).take n.toNat, q + n, 0) by unfold getText; rw [HG.out]; simp [hm, hs])
        obtain ⟨n, rfl⟩ := Int.eq_ofNat_of_zero_le h1
        obtain ⟨q, rfl⟩ := Int.eq_ofNat_of_zero_le (show 0 ≤ q by omega)
        obtain ⟨b, off, rfl, hb, _⟩ : ∃ b off, A = some ⟨b, off, none⟩ ∧ b < w.heap.size ∧ ∀ j (h : j < l.length), w.cell? ⟨b, off + j, none⟩ = some (bv l[j]) := by
          rcases HC.out with rfl | h
          · simp at h5; omega
          · exact h
        have hr : RB w (.slice (some ⟨b, off + q, none⟩) n (c - q)) ((l.drop q).take n) := HV.out.cut (by omega)
        by_cases hcq : c = q
        · subst hcq
          obtain rfl : n = 0 := by omega
          have hcv2 : (convert 23 9 (.slice (some ⟨b, off, none⟩) 0 0)).run Try.prog w = .ok (.string ⟨[].toArray⟩) w := RB.str (P := Try.prog) ⟨_, 0, rfl, Nat.le_refl _, Nat.zero_le _, .inl rfl⟩ Try.underlying23 Try.underlying5 Try.underlying9
          clear hr HC
          go_enter Try.func96, Try.ntmps96
          go_wp2_with fail
          refine HK.out.mono ?_
          rintro x w1 ⟨rfl, rfl⟩
          go_wp2
          go_ret3
          rw [E.out]
          exact ⟨rfl, rfl⟩
        · have hcv := hr.str (P := Try.prog) (src := 23) (dst := 9) Try.underlying23 Try.underlying5 Try.underlying9
          clear hr HC
          go_enter Try.func96, Try.ntmps96
          go_wp2_with fail
          refine HK.out.mono ?_
          rintro x w1 ⟨rfl, rfl⟩
          go_wp2
          go_ret3
          rw [E.out]
          exact ⟨rfl, rfl⟩
  · have E := Lib.hid (show getText l p most = ([], 0, er) by unfold getText; rw [HG.out]; rcases her with rfl | rfl <;> simp)
    have hne : (er != 0) = true := by rcases her with rfl | rfl <;> rfl
    have hne2 : (er == 0) = false := by rcases her with rfl | rfl <;> rfl
    have HE := Lib.hid her
    clear her
    go_enter Try.func96, Try.ntmps96
    go_wp2_with fail
    refine HK.out.mono ?_
    rintro x w1 ⟨rfl, rfl⟩
    go_wp2
    go_ret3
    rw [E.out]
    exact ⟨rfl, rfl⟩
end Go.Proofs.Ytomkbgghljcbfaa
