/-
  The contract of the reference's SameRows, at any rows: it tells whether they are the same.
-/
import Derived.Test.YtomkbgghljcbfaaGWords
import Derived.Test.YtomkbgghljcbfaaGChg
import Derived.Deep.QuietTactic
import Derived.BigQuiet
namespace Go.Proofs.Ytomkbgghljcbfaa
open Go.RowKit Go.Rst Go.Pg
theorem ba_ne {a b : List UInt8} (h : a ≠ b) : (⟨a.toArray⟩ : ByteArray) ≠ ⟨b.toArray⟩ := fun e => h (by injection e with e; simpa using e)
theorem ba_neL {a b : ByteArray} (h : a ≠ b) : a.toList ≠ b.toList := fun e => h (ba_ext e)

set_option maxRecDepth 100000 in
set_option maxHeartbeats 1600000 in
theorem sameRows_two (va vb : Value) (rs qs : List (ByteArray × List UInt8)) (w : World) (ha : RR w va rs) (hb : RR w vb qs) :
    Calls Try.prog 17 #[va, vb] w fun e w' => (∃ b, e = .returned (.bool b) ∧ (b = true ↔ rs = qs)) ∧ Below w.heap.size w w' := by
  have HA := Lib.hid ha
  have HB := Lib.hid hb
  obtain ⟨A1, c1, rfl, hl1, hc1, _⟩ := ha
  obtain ⟨A2, c2, rfl, hl2, hc2, _⟩ := hb
  unfold maxLen at hc1 hc2
  by_cases hlen : rs.length = qs.length
  · rw [← hlen] at HB hl2 ⊢
    have HL := Lib.hid hlen
    have hbne : ((rs.length : Int) != (rs.length : Int)) = false := by simp
    clear hlen
    go_enter Try.func17, Try.ntmps17
    go_wp2
    go_loopw [5] (fun i wr => ∃ k : Nat, k ≤ rs.length ∧ rs.take k = qs.take k ∧ i = .int .i64 k ∧ ∃ m, wr = w.drewN m) (fun i _ => rs.length - (intOf i).toNat)
    case atStart => exact ⟨0, Nat.zero_le _, rfl, rfl, 0, rfl⟩
    case round =>
      obtain ⟨k, hk, htk, rfl, m, rfl⟩ := hrel
      by_cases hlt : k < rs.length
      · have hltq : k < qs.length := by rw [← HL.out]; exact hlt
        obtain ⟨b1, o1, u1, rfl, hx1, hy1, hr1⟩ := rr_at HA.out hlt
        obtain ⟨b2, o2, u2, rfl, hx2, hy2, hr2⟩ := rr_at HB.out hltq
        have hs1 := fun (W : World) (hW : W.heap = w.heap) => (hr1.keep (w' := W) (by rw [hW]; exact Nat.le_refl _) (fun b o _ => by simp [World.cell?, hW])).str (P := Try.prog) (src := 23) (dst := 9) Try.underlying23 Try.underlying5 Try.underlying9
        have hs2 := fun (W : World) (hW : W.heap = w.heap) => (hr2.keep (w' := W) (by rw [hW]; exact Nat.le_refl _) (fun b o _ => by simp [World.cell?, hW])).str (P := Try.prog) (src := 23) (dst := 9) Try.underlying23 Try.underlying5 Try.underlying9
        have hs1' := fun j => hs1 (w.drewN j) rfl
        have hs2' := fun j => hs2 (w.drewN j) rfl
        have HT := Lib.hid htk
        have H1 := Lib.hid (List.take_succ_eq_append_getElem hlt)
        have H2 := Lib.hid (List.take_succ_eq_append_getElem hltq)
        have HN : rs[k] ≠ qs[k] → rs ≠ qs := fun h e => h (by simp only [e])
        generalize rs[k] = r1 at *
        generalize qs[k] = r2 at *
        obtain ⟨k1, v1⟩ := r1
        obtain ⟨k2, v2⟩ := r2
        simp only at hx1 hx2 hr1 hr2 hs1' hs2'
        clear hs1 hs2 htk hltq
        by_cases hkk : k1 = k2
        · subst hkk
          by_cases hvv : v1 = v2
          · subst hvv
            clear HN
            go_wp2
            go_quiet (fail)
            go_wp2
            go_roundw
            case rel => exact ⟨k + 1, by omega, by rw [H1.out, H2.out, HT.out], by go_num, _, rfl⟩
            case measure => simp [intOf]; omega
          · have hne := Lib.hid (HN (fun e => hvv (by injection e)))
            have hv1 : ((⟨v1.toArray⟩ : ByteArray).toList != (⟨v2.toArray⟩ : ByteArray).toList) = true := bne_iff_ne.2 (ba_neL (ba_ne hvv))
            have hv2 : ((⟨v1.toArray⟩ : ByteArray).toList == (⟨v2.toArray⟩ : ByteArray).toList) = false := beq_eq_false_iff_ne.2 (ba_neL (ba_ne hvv))
            generalize (⟨v1.toArray⟩ : ByteArray) = z1 at *
            generalize (⟨v2.toArray⟩ : ByteArray) = z2 at *
            clear HN
            go_wp2
            go_quiet (fail)
            go_wp2
            go_ret
            exact ⟨⟨_, rfl, by simpa using hne.out⟩, below_drewN (bel_drewN w m) _⟩
        · have hne := Lib.hid (HN (fun e => hkk (by injection e)))
          have hv1 : (k1.toList != k2.toList) = true := bne_iff_ne.2 (ba_neL hkk)
          have hv2 : (k1.toList == k2.toList) = false := beq_eq_false_iff_ne.2 (ba_neL hkk)
          clear HN
          go_wp2
          go_quiet (fail)
          go_wp2
          go_ret
          exact ⟨⟨_, rfl, by simpa using hne.out⟩, below_drewN (bel_drewN w m) _⟩
      · have e : k = rs.length := by omega
        have hrq : rs = qs := by
          have h1 := htk
          rw [e, List.take_length, HL.out, List.take_length] at h1
          exact h1
        have HE := Lib.hid hrq
        clear hrq htk e
        go_wp2
        go_ret
        exact ⟨⟨_, rfl, by simpa using HE.out⟩, bel_drewN w m⟩
  · have hbne : ((rs.length : Int) != (qs.length : Int)) = true := by rw [bne_iff_ne]; omega
    have hne : rs ≠ qs := fun e => hlen (by rw [e])
    go_enter Try.func17, Try.ntmps17
    go_wp2
    go_ret
    exact ⟨⟨_, rfl, by simpa using hne⟩, Below.refl _ _⟩
end Go.Proofs.Ytomkbgghljcbfaa
