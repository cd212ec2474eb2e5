/-
  The contract of the document's own Decode: it is that of the page's.
-/
import Derived.Test.YthhopfpgnjjpdaaRefRow
import Derived.Test.YthhopfpgnjjpdaaRefEnc
import Derived.Test.YthhopfpgnjjpdaaDec
namespace Go.Proofs.Ythhopfpgnjjpdaa
open Go.RowKit Go.Rst Go.Pg Go.Crc

def GivesRD (w : World) (r : Nat × List Rw × Nat) (e : Ending) (w' : World) : Prop :=
  ∃ v, e = .returned (.tuple #[.int .i64 r.1, v, .int .i64 r.2.2]) ∧ OR 5 35 w' w.heap.size v r.2.1 ∧ Below w.heap.size w w'
theorem GivesRD.err {w w' : World} {r : Nat × List Rw × Nat} {x : Nat} (h : r = (0, [], x)) (hb : Below w.heap.size w w') : GivesRD w r (.returned (.tuple #[.int .i64 0, .slice none 0 0, .int .i64 x])) w' := by
  subst h
  exact ⟨_, rfl, OR.nil_ _ _ _ _, hb⟩
theorem GivesRD.ok {w w' : World} {r : Nat × List Rw × Nat} {n : Nat} {rs : List Rw} {v : Value} (h : r = (n, rs, 0)) (ho : OR 5 35 w' w.heap.size v rs) (hb : Below w.heap.size w w') : GivesRD w r (.returned (.tuple #[.int .i64 n, v, .int .i64 0])) w' := by
  subst h
  exact ⟨_, rfl, ho, hb⟩
theorem refG_step (b : List UInt8) {f n k e : Nat} (h : f = n - k) (hk : k < n) (acc : List Rw) : refG b f k e acc = match refRow b k e with
    | none => none
    | some (r, s) => refG b (n - (k + 1)) (k + 1) s (acc ++ [r]) := by
  rw [h, show n - k = (n - (k + 1)) + 1 from by omega, refG]
  rfl
theorem refRow_lt {b : List UInt8} {i e : Nat} {r : Rw} {s : Nat} (h : refRow b i e = some (r, s)) : s < e := by
  unfold refRow at h
  split at h
  · cases h
  · split at h
    · cases h
    · split at h
      · cases h
      · split at h
        · injection h with h
          injection h with _ h
          omega
        · cases h

set_option maxRecDepth 100000 in
set_option maxHeartbeats 8000000 in
theorem refDec_any (v : Value) (l : List UInt8) (w : World) (hv : RB w v l) :
    Calls Try.prog 30 #[v] w (GivesRD w (refDec l)) := by
  have HV := Lib.hid hv
  obtain ⟨A, c, rfl, hlc, hc, _⟩ := hv
  unfold maxLen at hc
  have hD : refDec l = if l.length ≠ 256 then (0, [], 11) else if rightL l = false then (0, [], 12) else match refRows l with
    | none => (0, [], 11)
    | some r => if pageOk ((l.getD 0 0).toNat : Int) r = true ∧ encL ((l.getD 0 0).toNat : Int) r = l then ((l.getD 0 0).toNat, r, 0) else (0, [], 11) := rfl
  by_cases hl : l.length ≠ 256
  · rw [if_pos hl] at hD
    have HD := Lib.hid hD
    have hne : ((l.length : Int) != 256) = true := by simp; omega
    clear hD
    go_enter Try.func30, Try.ntmps30
    go_wp2
    go_ret3
    exact GivesRD.err HD.out (Below.refl _ _)
  · rw [if_neg hl] at hD
    have hl2 : l.length = 256 := by omega
    have hne : ((l.length : Int) != 256) = false := by simp; omega
    have HL := Lib.hid hl2
    have hlpos : (1 : Int) < (l.length : Int) := by omega
    have hright := refRight_any _ l w HV.out (by omega)
    cases hrt : rightL l with
    | false =>
      rw [if_pos hrt] at hD
      rw [hrt] at hright
      have HD := Lib.hid hD
      have HRT := Lib.hid hright
      clear hD hright hrt hl hl2
      go_enter Try.func30, Try.ntmps30
      go_wp2_with fail
      refine HRT.out.mono ?_
      rintro e w1 ⟨rfl, hbel⟩
      have HB := Lib.hid hbel
      clear hbel
      go_wp2
      go_ret3
      exact GivesRD.err HD.out HB.out
    | true =>
      rw [if_neg (by rw [hrt]; simp)] at hD
      rw [hrt] at hright
      have HRT := Lib.hid hright
      obtain ⟨b, off, rfl, hb, hc0⟩ := rb_cell HV.out (k := 0) (by omega)
      obtain ⟨_, _, he2, _, hc1⟩ := rb_cell HV.out (k := 1) (by omega)
      injection he2 with he2
      injection he2 with e1 e2 _
      subst e1
      subst e2
      have hg0 : l.getD 0 0 = l[0]'(by omega) := by rw [List.getD_eq_getElem?_getD, List.getElem?_eq_getElem (by omega)]; rfl
      have hg1 : l.getD 1 0 = l[1]'(by omega) := by rw [List.getD_eq_getElem?_getD, List.getElem?_eq_getElem (by omega)]; rfl
      have hRR : refRows l = refG l (l.getD 1 0).toNat 0 252 [] := rfl
      rw [hg0] at hD
      rw [hg1] at hRR
      obtain ⟨x, hx⟩ : ∃ x, x = l[0]'(by omega) := ⟨_, rfl⟩
      obtain ⟨x1, hx1⟩ : ∃ x, x = l[1]'(by omega) := ⟨_, rfl⟩
      rw [← hx] at hD hc0
      rw [← hx1] at hRR hc1
      unfold bv at hc0 hc1
      have hxb := x.toNat_lt
      have hx1b := x1.toNat_lt
      obtain ⟨lev, hlev⟩ : ∃ n, n = x.toNat := ⟨_, rfl⟩
      obtain ⟨n, hn⟩ : ∃ n, n = x1.toNat := ⟨_, rfl⟩
      rw [← hlev] at hD hc0 hxb
      rw [← hn] at hRR hc1 hx1b
      rw [Nat.add_zero] at hc0
      rw [hRR] at hD
      have HD := Lib.hid hD
      have HC0 := Lib.hid hc0
      have hrow := fun (i e : Nat) (hi : i ≤ 255) (he : e ≤ 252) W hW => refRow_any (.slice (some ⟨b, off, none⟩) l.length c) l hl2 i e hi he W hW
      have HROW := Lib.hid hrow
      clear hright hrt hl hl2 hg0 hg1 hx hx1 hlev hn hRR hD hc0 hrow
      go_enter Try.func30, Try.ntmps30
      go_wp2_with fail
      refine HRT.out.mono ?_
      rintro e w1 ⟨rfl, hbel⟩
      have HB := Lib.hid hbel
      clear hbel
      go_wp2
      go_loopw [5, 6, 7] (fun out en i wr => ∃ (k e : Nat) (acc : List Rw), k ≤ n ∧ e ≤ 252 ∧ i = .int .i64 k ∧ en = .int .i64 e ∧ acc.length = k ∧ OR 5 35 wr w.heap.size out acc ∧ Below w.heap.size w wr ∧ refG l (n - k) k e acc = refG l n 0 252 [])
        (fun _ _ i _ => n - (intOf i).toNat)
      case atStart => exact ⟨0, 252, [], Nat.zero_le _, Nat.le_refl _, rfl, rfl, rfl, OR.nil_ _ _ _ _, HB.out, rfl⟩
      case round =>
        obtain ⟨k, e, acc, hk, he, rfl, rfl, hal, hor, hbel, heq⟩ := hrel
        have HAL := Lib.hid hal
        have hsz := hbel.size
        have hn1 := (hbel.cell (p := ⟨b, off + 1, none⟩) hb).trans hc1
        clear hal HB
        by_cases hlt : k < n
        · rw [refG_step l rfl hlt] at heq
          have hcall := HROW.out k e (by omega) he wr (HV.out.below hbel)
          cases hr : refRow l k e with
          | none =>
            rw [hr] at hcall heq
            simp only [] at heq
            have HC := Lib.hid hcall
            have hd := HD.out
            rw [← heq] at hd
            have HD2 := Lib.hid (show refDec l = (0, [], 11) from hd)
            have HB := Lib.hid hbel
            clear hcall heq hr hd hbel hor
            go_wp2_with fail
            refine HC.out.mono ?_
            rintro e' w2 ⟨kk, u, y, ul, rfl, hfu, hb2, _⟩
            obtain ⟨Au, cu, rfl⟩ := hfu.shape
            have HB2 := Lib.hid (HB.out.trans (hb2.mono hsz))
            have hsz2 := HB2.out.size
            clear hfu hb2
            go_wp2
            go_ret3
            exact GivesRD.err HD2.out (HB2.out.alloc hsz2 _)
          | some rs =>
            obtain ⟨⟨rk, rv⟩, s⟩ := rs
            have hs := refRow_lt hr
            rw [hr] at hcall heq
            simp only [] at heq
            have HC := Lib.hid hcall
            have HE := Lib.hid heq
            have HB := Lib.hid hbel
            have HO := Lib.hid hor
            clear hcall heq hr hbel hor
            go_wp2_with fail
            refine HC.out.mono ?_
            rintro e' w2 ⟨kk, u, y, ul, rfl, hfu, hb2, hsp⟩
            obtain ⟨e1, e2, e3⟩ := hsp _ _ rfl
            simp only [] at e1 e2
            subst e1
            subst e2
            subst e3
            obtain ⟨Au, cu, rfl⟩ := hfu.shape
            have hb3 : Below w.heap.size w w2 := HB.out.trans (hb2.mono hsz)
            have hbx := hb3.alloc hb3.size (Obj.cells #[.string kk, .slice Au ul.length cu] 35)
            have hbel3 := hbx.alloc hbx.size (Obj.cells #[.string kk, .slice Au ul.length cu] 35)
            have hor2 := ((HO.out.below hb2).alloc (Obj.cells #[.string kk, .slice Au ul.length cu] 35)).alloc (Obj.cells #[.string kk, .slice Au ul.length cu] 35)
            have hfb2 := ((hfu.base_ (base' := w.heap.size) hsz).below ((Below.refl _ _).alloc (Nat.le_refl _) (Obj.cells #[.string kk, .slice Au ul.length cu] 35))).below ((Below.refl _ _).alloc (Nat.le_refl _) (Obj.cells #[.string kk, .slice Au ul.length cu] 35))
            obtain ⟨us, hus, ho, hfs⟩ := hor2
            have HLU := Lib.hid (show us.length = acc.length by rw [← hus, List.length_map])
            have HUS := Lib.hid hus
            have hsz2 := hb3.size
            clear hfu hb2 hb3 hbx hus HC hsp
            go_wp2_with (at_builtin; refine wpList_own rfl (.tmp 37) (.tmp 39) 24 24 rfl w.heap.size 35 (.agg #[.string ⟨#[]⟩, .slice none 0 0]) 2 40 Try.underlying24 info35 rfl rfl ho rfl (src_two _ (by simp) Try.underlying24 35 _ _ rfl rfl) hbel3 (Nat.le_refl _) ?_ ?_ ?_ ?_)
            · have := HLU.out; have := HAL.out; unfold maxLen; omega
            · have := HLU.out; have := HAL.out; omega
            · simp; omega
            intro v' w4 ho' hb4 hg4
            have hor4 := OR.push (by decide) ho hfs hfb2 ho' hg4
            rw [HUS.out] at hor4
            have HO4 := Lib.hid hor4
            have HB4 := Lib.hid hb4
            clear ho hfs hfb2 ho' hg4 hor4 hb4
            go_wp2
            go_roundw
            case rel => exact ⟨k + 1, s, _, by omega, by omega, by go_num, rfl, by rw [List.length_append, HAL.out]; rfl, HO4.out, HB4.out, HE.out⟩
            case measure => simp [intOf]; omega
        · have ek : k = n := by omega
          rw [ek, Nat.sub_self, refG] at heq
          have hd := HD.out
          rw [← heq] at hd
          simp only [] at hd
          have hz0 := (hbel.cell (p := ⟨b, off, none⟩) hb).trans HC0.out
          have hE : ∀ W u, RR W u acc → _ := fun W u hu => refEnc_any (lev : Int) u acc W hu
          have HE := Lib.hid hE
          have HB := Lib.hid hbel
          have HO := Lib.hid hor
          obtain ⟨A2, c2, rfl⟩ := or_shape hor
          clear heq hE hbel hor HD ek
          have hstr2 := fun W hW => str22 (w := W) (v := .slice (some ⟨b, off, none⟩) l.length c) (l := l) hW
          have HS2 := Lib.hid hstr2
          clear hstr2
          cases hok : pageOk (lev : Int) acc with
          | false =>
            rw [if_neg (by rw [hok]; simp)] at hd
            have HD := Lib.hid hd
            have HOK := Lib.hid hok
            clear hd hok
            go_wp2_with fail
            refine (HE.out _ _ HO.out.rr).mono ?_
            rintro e' w3 ⟨v3, rfl, ho3, hbel⟩
            have HB3 := Lib.hid (HB.out.trans (hbel.mono HB.out.size))
            rw [HOK.out]
            obtain ⟨A3, c3, rfl, _⟩ := own_shape ho3
            clear hbel ho3
            go_wp2
            go_ret3
            exact GivesRD.err HD.out HB3.out
          | true =>
            have HOK := Lib.hid hok
            have hbe : (encL (lev : Int) acc == l) = decide (encL (lev : Int) acc = l) := by
              rw [Bool.eq_iff_iff]; simp
            by_cases heq : encL (lev : Int) acc = l
            · rw [if_pos ⟨hok, heq⟩] at hd
              rw [decide_eq_true heq] at hbe
              have HD := Lib.hid hd
              have HBE := Lib.hid hbe
              clear hd hok hbe heq
              go_wp2_with fail
              refine (HE.out _ _ HO.out.rr).mono ?_
              rintro e' w3 ⟨v3, rfl, ho3, hbel⟩
              have HB3 := Lib.hid (HB.out.trans (hbel.mono HB.out.size))
              have HO3 := Lib.hid (HO.out.below hbel)
              have hst1 := str22 (RB.own ho3)
              have hst2 := HS2.out _ (HV.out.below HB3.out)
              have hbe := HBE.out
              have hz3 := (HB3.out.cell (p := ⟨b, off, none⟩) hb).trans HC0.out
              rw [HOK.out]
              obtain ⟨A3, c3, rfl, _⟩ := own_shape ho3
              clear hbel ho3
              go_wp2
              go_ret3
              exact GivesRD.ok HD.out HO3.out HB3.out
            · rw [if_neg (fun h => heq h.2)] at hd
              rw [decide_eq_false heq] at hbe
              have HD := Lib.hid hd
              have HBE := Lib.hid hbe
              clear hd hok hbe heq
              go_wp2_with fail
              refine (HE.out _ _ HO.out.rr).mono ?_
              rintro e' w3 ⟨v3, rfl, ho3, hbel⟩
              have HB3 := Lib.hid (HB.out.trans (hbel.mono HB.out.size))
              have hst1 := str22 (RB.own ho3)
              have hst2 := HS2.out _ (HV.out.below HB3.out)
              have hbe := HBE.out
              have hz3 := (HB3.out.cell (p := ⟨b, off, none⟩) hb).trans HC0.out
              rw [HOK.out]
              obtain ⟨A3, c3, rfl, _⟩ := own_shape ho3
              clear hbel ho3
              go_wp2
              go_ret3
              exact GivesRD.err HD.out HB3.out
end Go.Proofs.Ythhopfpgnjjpdaa
