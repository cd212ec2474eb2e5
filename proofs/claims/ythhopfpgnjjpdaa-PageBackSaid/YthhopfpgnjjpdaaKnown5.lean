/-
  The chapter's example holds: known returns true.
-/
import Derived.Test.YthhopfpgnjjpdaaDec
namespace Go.Pg
open Go.Rst Go.Crc
def K0 : List UInt8 := encL 0 []
theorem k0_ok : pageOk 0 [] = true := by unfold pageOk; simp [fitN, fitF]
theorem k0_len : K0.length = 256 := encL_length k0_ok
theorem k0_dec : decR K0 = (0, [], 0) := dec_enc k0_ok
theorem k0_one : K0.getD 1 0 = 0 := by
  unfold K0 encL
  rw [if_pos k0_ok]
  rfl
end Go.Pg
namespace Go.Proofs.Ythhopfpgnjjpdaa
open Go.RowKit Go.Rst Go.Pg Go.Crc

theorem rr_nil (w : World) : RR w (.slice none 0 0) [] := ⟨none, 0, rfl, Nat.le_refl _, Nat.zero_le _, .inl rfl⟩
theorem enc_nil (w : World) : Calls Try.prog 10 #[.int .i64 0, .slice none 0 0] w fun e w' => ∃ v, e = .returned (.tuple #[v, .bool true]) ∧ w'.ownsRow w.heap.size 5 1 v 256 (bvs K0) ∧ Below w.heap.size w w' :=
  (enc_any 0 _ [] w (rr_nil w)).mono fun e w' ⟨v, h1, h2, h3⟩ => by
    rw [k0_ok] at h1
    have h2' : w'.ownsRow w.heap.size 5 1 v K0.length (bvs K0) := h2
    rw [k0_len] at h2'
    exact ⟨v, h1, h2', h3⟩
theorem dec_nil (v : Value) (w : World) (hv : RB w v K0) : Calls Try.prog 12 #[v] w fun e w' => e = .returned (.tuple #[.int .i64 0, .slice none 0 0, .int .u16 0]) ∧ Below w.heap.size w w' ∨
    ∃ A c, e = .returned (.tuple #[.int .i64 0, .slice A 0 c, .int .u16 0]) ∧ Below w.heap.size w w' :=
  (dec_any v K0 w hv).mono fun e w' ⟨u, h1, h2, h3⟩ => by
    rw [k0_dec] at h1 h2
    obtain ⟨A, c, rfl⟩ := or_shape h2
    exact .inr ⟨A, c, h1, h3⟩

set_option maxRecDepth 100000 in
set_option maxHeartbeats 1600000 in
theorem known_any (w : World) : Calls Try.prog 13 #[] w fun e w' => e = .returned (.bool true) ∧ Below w.heap.size w w' := by
  go_enter Try.func13, Try.ntmps13
  go_wp2_with fail
  refine (enc_nil _).mono ?_
  rintro e w1 ⟨v1, rfl, hown, hbel⟩
  have hrb := RB.own hown
  obtain ⟨g, c, rfl, _, hg, hc63⟩ := own_addr' hown
  have hc1 := (rb_cell (A := some ⟨g, 0, none⟩) (c := c) (l := K0) (by rw [k0_len]; exact hrb) (k := 1) (by rw [k0_len]; decide))
  obtain ⟨b', o', he, _, hc1⟩ := hc1
  injection he with he
  injection he with e1 e2 _
  subst e1
  subst e2
  have hk1 : K0[1]'(by rw [k0_len]; decide) = 0 := by
    have := k0_one
    rw [List.getD_eq_getElem?_getD, List.getElem?_eq_getElem (by rw [k0_len]; decide)] at this
    exact this
  rw [hk1, Nat.zero_add] at hc1
  have hx := hc1
  unfold bv at hx
  have HB := Lib.hid hbel
  have HR := Lib.hid hrb
  clear hown hbel hrb hc1 hk1
  go_wp2_with fail
  refine (dec_nil _ _ HR.out).mono ?_
  rintro e w2 (⟨rfl, hbel⟩ | ⟨A, c2, rfl, hbel⟩)
  all_goals
    have hx2 := (hbel.cell (p := ⟨g, 1, none⟩) hg).trans hx
    have HB2 := Lib.hid (HB.out.trans (hbel.mono HB.out.size))
    clear hbel
    go_wp2
    go_ret
    exact ⟨rfl, HB2.out⟩
end Go.Proofs.Ythhopfpgnjjpdaa
