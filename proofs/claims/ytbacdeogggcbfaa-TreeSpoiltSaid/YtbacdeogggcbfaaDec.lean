/-
  The contract of page.Decode: the way back from any bytes.
-/
import Derived.Test.YtbacdeogggcbfaaSlotted
import Derived.Test.YtbacdeogggcbfaaEncW
import Derived.Test.YtbacdeogggcbfaaCRight
namespace Go.Proofs.Ytbacdeogggcbfaa
open Go.RowKit Go.Rst Go.Pg Go.Crc

def GivesDec (w : World) (r : Nat × List Rw × Nat) (e : Ending) (w' : World) : Prop :=
  ∃ v, e = .returned (.tuple #[.int .i64 r.1, v, .int .u16 r.2.2]) ∧ OR 5 25 w' w.heap.size v r.2.1 ∧ Below w.heap.size w w'
theorem GivesDec.err {w w' : World} {r : Nat × List Rw × Nat} {x : Nat} (h : r = (0, [], x)) (hb : Below w.heap.size w w') : GivesDec w r (.returned (.tuple #[.int .i64 0, .slice none 0 0, .int .u16 x])) w' := by
  subst h
  exact ⟨_, rfl, OR.nil_ _ _ _ _, hb⟩
theorem GivesDec.ok {w w' : World} {r : Nat × List Rw × Nat} {n : Nat} {rs : List Rw} {v : Value} (h : r = (n, rs, 0)) (ho : OR 5 25 w' w.heap.size v rs) (hb : Below w.heap.size w w') : GivesDec w r (.returned (.tuple #[.int .i64 n, v, .int .u16 0])) w' := by
  subst h
  exact ⟨_, rfl, ho, hb⟩
set_option maxRecDepth 100000 in
set_option maxHeartbeats 4000000 in
theorem dec_any (v : Value) (l : List UInt8) (w : World) (hv : RB w v l) :
    Calls Try.prog 27 #[v] w (GivesDec w (decR l)) := by
  have HV := Lib.hid hv
  have hright := right_any v l w hv
  obtain ⟨A, c, rfl, hlc, hc, _⟩ := hv
  unfold maxLen at hc
  have hD : decR l = if l.length ≠ 256 then (0, [], 11) else if rightL l = false then (0, [], 12) else match slotted l with
    | none => (0, [], 11)
    | some r => if pageOk ((l.getD 0 0).toNat : Int) r = true ∧ encL ((l.getD 0 0).toNat : Int) r = l then ((l.getD 0 0).toNat, r, 0) else (0, [], 11) := rfl
  by_cases hl : l.length ≠ 256
  · rw [if_pos hl] at hD
    have HD := Lib.hid hD
    have hne : ((l.length : Int) != 256) = true := by simp; omega
    clear hD hright
    go_enter Try.func27, Try.ntmps27
    go_wp2
    go_ret3
    exact GivesDec.err HD.out (Below.refl _ _)
  · rw [if_neg hl] at hD
    have hl2 : l.length = 256 := by omega
    have hne : ((l.length : Int) != 256) = false := by simp; omega
    have HL := Lib.hid hl2
    have hs := fun W hW => slotted_any (.slice A l.length c) l hl2 W hW
    have hlpos : (0 : Int) < (l.length : Int) := by omega
    cases hrt : rightL l with
    | false =>
      rw [if_pos hrt] at hD
      rw [hrt] at hright
      have HD := Lib.hid hD
      have HRT := Lib.hid hright
      clear hD hright hs hrt hl hl2
      go_enter Try.func27, Try.ntmps27
      go_wp2_with fail
      refine HRT.out.mono ?_
      rintro e w1 ⟨rfl, hbel⟩
      have HB := Lib.hid hbel
      clear hbel
      go_wp2
      go_ret3
      exact GivesDec.err HD.out HB.out
    | true =>
      rw [if_neg (by rw [hrt]; simp)] at hD
      rw [hrt] at hright
      have HRT := Lib.hid hright
      have HS := Lib.hid hs
      obtain ⟨b, off, rfl, hb, hc0⟩ := rb_cell HV.out (k := 0) (by omega)
      have hg0 : l.getD 0 0 = l[0]'(by omega) := by rw [List.getD_eq_getElem?_getD, List.getElem?_eq_getElem (by omega)]; rfl
      rw [hg0] at hD
      obtain ⟨x, hx⟩ : ∃ x, x = l[0]'(by omega) := ⟨_, rfl⟩
      rw [← hx] at hD hc0
      unfold bv at hc0
      have hxb := x.toNat_lt
      obtain ⟨lev, hlev⟩ : ∃ n, n = x.toNat := ⟨_, rfl⟩
      rw [← hlev] at hD hc0 hxb
      rw [Nat.add_zero] at hc0
      clear hright hs hrt hl hl2 hg0 hx hlev
      cases hsl : slotted l with
      | none =>
        rw [hsl] at hD HS
        have HD := Lib.hid hD
        clear hD hsl
        go_enter Try.func27, Try.ntmps27
        go_wp2_with fail
        refine HRT.out.mono ?_
        rintro e w1 ⟨rfl, hbel⟩
        have HB := Lib.hid hbel
        have HV1 := Lib.hid (HV.out.below hbel)
        have hc1 := (hbel.cell (p := ⟨b, off, none⟩) hb).trans hc0
        clear hbel
        go_wp2_with fail
        refine (HS.out _ HV1.out).mono ?_
        rintro e w2 ⟨v2, rfl, ho, hbel⟩
        have HB2 := Lib.hid (HB.out.trans (hbel.mono HB.out.size))
        obtain ⟨A2, c2, rfl⟩ := or_shape ho
        clear hbel ho
        go_wp2
        go_ret3
        exact GivesDec.err HD.out HB2.out
      | some rs =>
        rw [hsl] at hD HS
        simp only [] at hD
        have hE : ∀ W u, RR W u rs → _ := fun W u hu => enc_any (lev : Int) u rs W hu
        have HE := Lib.hid hE
        clear hsl hE
        cases hok : pageOk (lev : Int) rs with
        | false =>
          rw [if_neg (by rw [hok]; simp)] at hD
          have HD := Lib.hid hD
          have HOK := Lib.hid hok
          clear hD hok
          go_enter Try.func27, Try.ntmps27
          go_wp2_with fail
          refine HRT.out.mono ?_
          rintro e w1 ⟨rfl, hbel⟩
          have HB := Lib.hid hbel
          have HV1 := Lib.hid (HV.out.below hbel)
          have hc1 := (hbel.cell (p := ⟨b, off, none⟩) hb).trans hc0
          clear hbel
          go_wp2_with fail
          refine (HS.out _ HV1.out).mono ?_
          rintro e w2 ⟨v2, rfl, ho, hbel⟩
          have HB2 := Lib.hid (HB.out.trans (hbel.mono HB.out.size))
          have HO := Lib.hid ho.rr
          obtain ⟨A2, c2, rfl⟩ := or_shape ho
          clear hbel ho
          go_wp2_with fail
          refine (HE.out _ _ HO.out).mono ?_
          rintro e w3 ⟨v3, rfl, ho3, hbel⟩
          have HB3 := Lib.hid (HB2.out.trans (hbel.mono HB2.out.size))
          rw [HOK.out]
          obtain ⟨A3, c3, rfl, _⟩ := own_shape ho3
          clear hbel ho3
          go_wp2
          go_ret3
          exact GivesDec.err HD.out HB3.out
        | true =>
          have HOK := Lib.hid hok
          by_cases heq : encL (lev : Int) rs = l
          · rw [if_pos ⟨hok, heq⟩] at hD
            have HD := Lib.hid hD
            have hbe : (encL (lev : Int) rs == l) = true := by simp [heq]
            have HBE := Lib.hid hbe
            clear hD hok hbe heq
            go_enter Try.func27, Try.ntmps27
            go_wp2_with fail
            refine HRT.out.mono ?_
            rintro e w1 ⟨rfl, hbel⟩
            have HB := Lib.hid hbel
            have HV1 := Lib.hid (HV.out.below hbel)
            have hc1 := (hbel.cell (p := ⟨b, off, none⟩) hb).trans hc0
            clear hbel
            go_wp2_with fail
            refine (HS.out _ HV1.out).mono ?_
            rintro e w2 ⟨v2, rfl, ho, hbel⟩
            have HB2 := Lib.hid (HB.out.trans (hbel.mono HB.out.size))
            have HO := Lib.hid ho
            obtain ⟨A2, c2, rfl⟩ := or_shape ho
            clear hbel ho
            go_wp2_with fail
            refine (HE.out _ _ HO.out.rr).mono ?_
            rintro e w3 ⟨v3, rfl, ho3, hbel⟩
            have HB3 := Lib.hid (HB2.out.trans (hbel.mono HB2.out.size))
            have HO3 := Lib.hid (HO.out.below hbel)
            have HR3 := Lib.hid (RB.own ho3)
            rw [HOK.out]
            obtain ⟨A3, c3, rfl, _⟩ := own_shape ho3
            clear hbel ho3
            go_wp2_with fail
            refine (equal_any _ _ _ l _ HR3.out (HV.out.below HB3.out)).mono ?_
            rintro e w4 ⟨rfl, rfl⟩
            rw [HBE.out]
            go_wp2
            go_ret3
            exact GivesDec.ok HD.out (HO3.out.base_ HB.out.size) HB3.out
          · rw [if_neg (fun h => heq h.2)] at hD
            have HD := Lib.hid hD
            have hbe : (encL (lev : Int) rs == l) = false := by simpa using heq
            have HBE := Lib.hid hbe
            clear hD hok hbe heq
            go_enter Try.func27, Try.ntmps27
            go_wp2_with fail
            refine HRT.out.mono ?_
            rintro e w1 ⟨rfl, hbel⟩
            have HB := Lib.hid hbel
            have HV1 := Lib.hid (HV.out.below hbel)
            have hc1 := (hbel.cell (p := ⟨b, off, none⟩) hb).trans hc0
            clear hbel
            go_wp2_with fail
            refine (HS.out _ HV1.out).mono ?_
            rintro e w2 ⟨v2, rfl, ho, hbel⟩
            have HB2 := Lib.hid (HB.out.trans (hbel.mono HB.out.size))
            have HO := Lib.hid ho
            obtain ⟨A2, c2, rfl⟩ := or_shape ho
            clear hbel ho
            go_wp2_with fail
            refine (HE.out _ _ HO.out.rr).mono ?_
            rintro e w3 ⟨v3, rfl, ho3, hbel⟩
            have HB3 := Lib.hid (HB2.out.trans (hbel.mono HB2.out.size))
            have HR3 := Lib.hid (RB.own ho3)
            rw [HOK.out]
            obtain ⟨A3, c3, rfl, _⟩ := own_shape ho3
            clear hbel ho3
            go_wp2_with fail
            refine (equal_any _ _ _ l _ HR3.out (HV.out.below HB3.out)).mono ?_
            rintro e w4 ⟨rfl, rfl⟩
            rw [HBE.out]
            go_wp2
            go_ret3
            exact GivesDec.err HD.out HB3.out
end Go.Proofs.Ytbacdeogggcbfaa
