/-
  The contract of the statements' own back: what was built is there, and each key is got.
-/
import Derived.Test.YtbacdeogggcbfaaKnown6
import Derived.Test.YtbacdeogggcbfaaGLay
import Derived.Test.YtbacdeogggcbfaaSame
namespace Go.Pg
open Go.Rst Go.Crc
def hasK (l : List Rw) (key : ByteArray) : Bool := l.any fun r => r.1.toList == key.toList
theorem hasK_step {l : List Rw} {k : Nat} (h : k < l.length) (key : ByteArray) : hasK (l.take (k + 1)) key = (hasK (l.take k) key || (l[k].1.toList == key.toList)) := by
  unfold hasK
  rw [List.take_succ_eq_append_getElem h, List.any_append]
  simp
theorem findR_some {key : ByteArray} : ∀ l : List Rw, (findR l key).isSome = hasK l key
  | [] => rfl
  | r :: rs => by
    have ih := findR_some (key := key) rs
    unfold findR
    unfold hasK at ih ⊢
    rw [List.any_cons]
    cases h : (r.1.toList == key.toList)
    · simp [ih]
    · simp
theorem findR_own {l : List Rw} (hs : Sorted l) {k : Nat} (hk : k < l.length) : findR l l[k].1 = some l[k].2 := by
  refine findR_at hk rfl (fun q hq he => ?_)
  have := hs.at hq hk
  unfold lt at this
  rw [he] at this
  unfold kl at this
  rw [bl_irrefl] at this
  cases this
end Go.Pg
namespace Go.Proofs.Ytbacdeogggcbfaa
open Go.RowKit Go.Rst Go.Pg Go.Crc

set_option maxRecDepth 100000 in
set_option maxHeartbeats 8000000 in
theorem back_any (v : Value) (rs : List Rw) (key : ByteArray) (hs : Sorted rs) (hn : rs.length ≤ 300) (hg : ∀ r ∈ rs, r.1.size ≤ 30 ∧ r.2.length ≤ 150) (w : World) (hv : RR w v rs) :
    Calls Try.prog 13 #[v, .string key] w fun e w' => e = .returned (.bool true) ∧ Below w.heap.size w w' := by
  obtain ⟨ps, hps, hpl, hp0⟩ := build_some hs hn hg
  have hget := fun key => get_built hps (by omega) key
  have hrows := rows_tree hps
  have HV := Lib.hid hv
  obtain ⟨A, c, rfl, hlc, hc63⟩ := rr_shape hv
  have k1 := build_any _ rs w hv
  rw [hps] at k1
  have K1 := Lib.hid k1
  have HGET := Lib.hid hget
  have HROWS := Lib.hid hrows
  clear k1 hget hrows hps hv
  go_enter Try.func13, Try.ntmps13
  go_wp2_with fail
  refine K1.out.mono ?_
  rintro e w1 ⟨p1, rfl, hp1, hb1⟩
  have hp1 : OP 5 23 w1 w.heap.size p1 ps := hp1
  have k2 := rows_any p1 ps w1 hp1.rp
  rw [HROWS.out] at k2
  have K2 := Lib.hid k2
  have HP1 := Lib.hid hp1
  have HB1 := Lib.hid hb1
  obtain ⟨A1, c1, hpv, _, _⟩ := hp1.shape
  obtain ⟨np, hnp⟩ : ∃ np, np = ps.length := ⟨_, rfl⟩
  rw [← hnp] at hpv
  subst hpv
  clear hnp
  clear hp1 hb1 k2 K1
  go_wp2_with fail
  refine K2.out.mono ?_
  rintro e w2 ⟨v2, rfl, ho2, hb2⟩
  have ho2 : OR 5 25 w2 w1.heap.size v2 rs := ho2
  have HB2 := Lib.hid (HB1.out.trans (hb2.mono HB1.out.size))
  have HP2 := Lib.hid (HP1.out.below hb2)
  have K3 := Lib.hid (sameRows_any _ _ rs w2 (rr_below HV.out HB2.out (Nat.le_refl _)) ho2.rr)
  obtain ⟨A2, c2, rfl⟩ := or_shape ho2
  clear ho2 hb2 K2 HP1
  go_wp2_with fail
  refine K3.out.mono ?_
  rintro e w3 ⟨rfl, m3, rfl⟩
  have HB3 := Lib.hid (show Below w.heap.size w (w2.drewN m3) from ⟨HB2.out.os, HB2.out.tape, HB2.out.output, HB2.out.size, HB2.out.block⟩)
  have HP3 := Lib.hid (HP2.out.below (bel_drewN w2 m3))
  generalize w2.drewN m3 = w3 at *
  clear K3 HP2
  go_wp2
  go_loopw [9, 10] (fun is i wr => ∃ k : Nat, k ≤ rs.length ∧ i = .int .i64 k ∧ is = .bool (hasK (rs.take k) key) ∧ Below w3.heap.size w3 wr) (fun _ i _ => rs.length - (intOf i).toNat)
  case atStart => exact ⟨0, Nat.zero_le _, rfl, rfl, Below.refl _ _⟩
  case round =>
    obtain ⟨k, hk, rfl, rfl, hbel⟩ := hrel
    by_cases hlt : k < rs.length
    · obtain ⟨b, off, u, rfl, hx0, hy0, hr0⟩ := rr_at HV.out hlt
      have hb := rr_block HV.out (by omega)
      have hbw := HB3.out.trans (hbel.mono HB3.out.size)
      have hx := (hbw.cell (p := ⟨b, off + k * 2, none⟩) hb).trans hx0
      have hy := (hbw.cell (p := ⟨b, off + k * 2 + 1, none⟩) hb).trans hy0
      have hru := hr0.below hbw
      obtain ⟨A3, c3, hu, _, _, _⟩ := hr0
      have kg := get_any (.slice A1 np c1) ps (by omega) rs[k].1 wr (HP3.out.below hbel).rp
      rw [HGET.out, findR_own hs hlt] at kg
      have hst := hasK_step hlt key
      obtain ⟨kk, hkk⟩ : ∃ x, x = rs[k].1 := ⟨_, rfl⟩
      obtain ⟨vv, hvv⟩ : ∃ x, x = rs[k].2 := ⟨_, rfl⟩
      rw [← hkk] at hx kg hst
      rw [← hvv] at hu hru kg
      obtain ⟨n3, hn3⟩ : ∃ x, x = vv.length := ⟨_, rfl⟩
      rw [← hn3] at hu
      subst hu
      have HN3 := Lib.hid hn3
      clear hn3
      have KG := Lib.hid (show Calls Try.prog 23 #[.slice A1 np c1, .string kk] wr fun e w' => ∃ v, e = .returned (.tuple #[v, .bool true, .int .u16 0]) ∧ RB w' v vv ∧ Below wr.heap.size wr w' from kg)
      have HRU := Lib.hid hru
      have HST := Lib.hid hst
      have HBW := Lib.hid hbel
      have hxx : ∀ W, Below wr.heap.size wr W → W.cell? ⟨b, off + k * 2, none⟩ = some (.string kk) := fun W h => (h.cell (p := ⟨b, off + k * 2, none⟩) (Nat.lt_of_lt_of_le hb hbw.size)).trans hx
      have hyy : ∀ W, Below wr.heap.size wr W → W.cell? ⟨b, off + k * 2 + 1, none⟩ = some (.slice A3 n3 c3) := fun W h => (h.cell (p := ⟨b, off + k * 2 + 1, none⟩) (Nat.lt_of_lt_of_le hb hbw.size)).trans hy
      have HXX := Lib.hid hxx
      have HYY := Lib.hid hyy
      have q1 : (0 : Int) ≤ (k : Int) := by omega
      have q2 : (k : Int) < rs.length := by omega
      obtain ⟨isb, hisb⟩ : ∃ x, x = hasK (rs.take k) key := ⟨_, rfl⟩
      rw [← hisb] at HST ⊢
      clear hru kg hst hbel hx0 hy0 hbw hxx hyy hkk hvv hisb
      go_wp2_with fail
      refine KG.out.mono ?_
      rintro e w4 ⟨v4, rfl, hr4, hb4⟩
      have HB4 := Lib.hid (HBW.out.trans (hb4.mono HBW.out.size))
      have hx4 := HXX.out w4 hb4
      have hy4 := HYY.out w4 hb4
      have hs1 := fun j => str22 (hr4.keep (w' := w4.drewN j) (Nat.le_refl _) (fun _ _ _ => rfl))
      have hs2 := fun j => str22 ((HRU.out.below hb4).keep (w' := w4.drewN j) (Nat.le_refl _) (fun _ _ _ => rfl))
      have hx4' := fun j => (show (w4.drewN j).cell? ⟨b, off + k * 2, none⟩ = _ from hx4)
      have hy4' := fun j => (show (w4.drewN j).cell? ⟨b, off + k * 2 + 1, none⟩ = _ from hy4)
      have HB4' := Lib.hid (fun j => (⟨HB4.out.os, HB4.out.tape, HB4.out.output, HB4.out.size, HB4.out.block⟩ : Below w3.heap.size w3 (w4.drewN j)))
      obtain ⟨A4, c4, hv4, _, _, _⟩ := hr4
      obtain ⟨n4, hn4⟩ : ∃ x, x = vv.length := ⟨_, rfl⟩
      rw [← hn4] at hv4
      subst hv4
      clear hb4 KG hx hy hn4
      cases isb with
      | true =>
        have HT := Lib.hid (show hasK (rs.take (k + 1)) key = true by rw [HST.out]; rfl)
        go_wp2
        go_quiet (fail)
        clear hs1 hs2 hy4 hy4'
        go_wp2
        go_roundw
        case rel => exact ⟨k + 1, by omega, by go_num, by rw [HT.out], HB4'.out _⟩
        case measure => simp [intOf]; omega
      | false =>
        cases e1 : (kk.toList == key.toList) with
        | true =>
          have HT := Lib.hid (show hasK (rs.take (k + 1)) key = true by rw [HST.out, e1]; rfl)
          go_wp2
          go_quiet (fail)
          clear hs1 hs2 hy4 hy4'
          go_wp2
          go_roundw
          case rel => exact ⟨k + 1, by omega, by go_num, by rw [HT.out], HB4'.out _⟩
          case measure => simp [intOf]; omega
        | false =>
          have HT := Lib.hid (show hasK (rs.take (k + 1)) key = false by rw [HST.out, e1]; rfl)
          go_wp2
          go_quiet (fail)
          clear hs1 hs2 hy4 hy4'
          go_wp2
          go_roundw
          case rel => exact ⟨k + 1, by omega, by go_num, by rw [HT.out], HB4'.out _⟩
          case measure => simp [intOf]; omega
    · obtain rfl : k = rs.length := by omega
      rw [List.take_length]
      have kg := get_any (.slice A1 np c1) ps (by omega) key wr (HP3.out.below hbel).rp
      rw [HGET.out] at kg
      have hfs := findR_some (key := key) rs
      unfold GivesG at kg
      simp only [hfs] at kg
      obtain ⟨isb, hisb⟩ : ∃ x, x = hasK rs key := ⟨_, rfl⟩
      rw [← hisb] at kg ⊢
      obtain ⟨vr, hvr⟩ : ∃ x, x = (findR rs key).getD [] := ⟨_, rfl⟩
      rw [← hvr] at kg
      have KG := Lib.hid kg
      have HB := Lib.hid (HB3.out.trans (hbel.mono HB3.out.size))
      have hbb : (isb == isb) = true := by simp
      clear kg hfs hisb hvr hbel
      go_wp2_with fail
      refine KG.out.mono ?_
      rintro e w4 ⟨v4, rfl, hr4, hb4⟩
      have HB4 := Lib.hid (HB.out.trans (hb4.mono HB.out.size))
      obtain ⟨A4, c4, rfl, _, _, _⟩ := hr4
      clear hb4
      go_wp2
      go_ret
      exact ⟨rfl, HB4.out⟩
end Go.Proofs.Ytbacdeogggcbfaa
