/-
 The contracts of the document's own Rising and Same of trees.; The contract of the program's own Rising.; The contract of the reference's SameChanges, at changes that read alike: it answers true.
-/
import Derived.Deep.QuietTactic
import Derived.BigQuiet
import Derived.Test.YtmbkaedhllfoeaaKVA
import Derived.Test.YtmbkaedhllfoeaaKVB
set_option linter.unusedVariables false
namespace Go.Pg
theorem rising_go {rs : List Rw} {k : Nat} (h : k + 1 < rs.length) : risingA (rs[k]'(by omega)).1 (rs.drop (k + 1)) = (!(sle rs[k + 1].1 (rs[k]'(by omega)).1) && risingA rs[k + 1].1 (rs.drop (k + 2))) := by
 rw [List.drop_eq_getElem_cons h, risingA]
end Go.Pg
namespace Go.Proofs.Ytmbkaedhllfoeaa
open Go.RowKit Go.Rst Go.Pg
end Go.Proofs.Ytmbkaedhllfoeaa
namespace Go.Proofs.Ytmbkaedhllfoeaa
open Go.RowKit Go.Rst Go.Pg
set_option maxRecDepth 100000 in
set_option maxHeartbeats 1600000 in
theorem rising_any (v : Value) (rs : List Rw) (w : World) (hv : RR w v rs) :
  Calls Try.prog 64 #[v] w fun e w' => e = .returned (.bool (risingL rs)) ∧ Below w.heap.size w w' := by
 have HV := Lib.hid hv
 obtain ⟨A, c, rfl, hlc, hc, _⟩ := hv
 unfold maxLen at hc
 go_enter Try.func64, Try.ntmps64
 go_wp2
 go_loopw [3] (fun i wr => ∃ k : Nat, i = .int .i64 ((k : Int) + 1) ∧ ((rs.length ≤ k + 1 ∧ risingL rs = true) ∨ ∃ (h : k < rs.length), risingL rs = risingA rs[k].1 (rs.drop (k + 1))) ∧ Below w.heap.size w wr) (fun i _ => rs.length - (intOf i).toNat)
 case atStart =>
  refine ⟨0, rfl, ?_, Below.refl _ _⟩
  cases rs with
  | nil => exact .inl ⟨by simp, rfl⟩
  | cons r rs => exact .inr ⟨by simp, rfl⟩
 case round =>
  obtain ⟨k, rfl, hf, hbel⟩ := hrel
  by_cases hlt : k + 1 < rs.length
  ·have hf2 : risingL rs = risingA (rs[k]'(by omega)).1 (rs.drop (k + 1)) := by
    rcases hf with ⟨h, _⟩ | ⟨_, h⟩
    ·omega
    ·exact h
   rw [rising_go hlt] at hf2
   obtain ⟨b, off, u, rfl, hx0, _, _⟩ := rr_at HV.out (k := k) (by omega)
   obtain ⟨b', off', u', he, hx1, _, _⟩ := rr_at HV.out hlt
   injection he with he
   injection he with e1 e2 _
   subst e1
   subst e2
   have hb := rr_block HV.out (by omega)
   have hx := (hbel.cell (p := ⟨b, off + k * 2, none⟩) hb).trans hx0
   have hy := (hbel.cell (p := ⟨b, off + (k + 1) * 2, none⟩) hb).trans hx1
   have hge : ∃ h : k + 1 < rs.length, rs[k + 1].1 = rs[k + 1].1 := ⟨hlt, rfl⟩
   obtain ⟨ky, hky⟩ : ∃ x, x = (rs[k]'(by omega)).1 := ⟨_, rfl⟩
   obtain ⟨kz, hkz⟩ : ∃ x, x = rs[k + 1].1 := ⟨_, rfl⟩
   rw [← hky] at hx hf2
   rw [← hkz] at hy hf2
   have HF := Lib.hid hf2
   have HKZ := Lib.hid hkz
   have HB := Lib.hid hbel
   have hk1 : ((k : Int) + 1) < rs.length := by omega
   have hk63 : (k : Int) + 2 ≤ 9223372036854775807 := by omega
   have hx' := fun j => (show (wr.drewN j).cell? ⟨b, off + k * 2, none⟩ = _ from hx)
   have hy' := fun j => (show (wr.drewN j).cell? ⟨b, off + (k + 1) * 2, none⟩ = _ from hy)
   have ek : IntKind.i64.wrap ((k : Int) + 1 - 1) = (k : Int) := by rw [IntKind.wrap_i64]; omega
   have et : ((k : Int) + 1).toNat = k + 1 := by omega
   have b1 : (0 : Int) ≤ (k : Int) := by omega
   have b2 : (k : Int) < rs.length := by omega
   have b3 : (0 : Int) ≤ (k : Int) + 1 := by omega
   clear hf2 hf hbel hx0 hx1 hky hkz HV hge
   rcases sle_cases kz ky with ⟨h0, h1⟩ | ⟨h0, h1, h2⟩ | ⟨h0, h1, h2⟩
   ·have E := Lib.hid (show risingL rs = false by rw [HF.out, h0]; rfl)
    clear h0 HF
    go_wp2
    go_quiet (fail)
    clear ek et
    go_wp2
    go_ret
    rw [E.out]
    exact ⟨rfl, HB.out.os, HB.out.tape, HB.out.output, HB.out.size, HB.out.block⟩
   ·have E := Lib.hid (show risingL rs = false by rw [HF.out, h0]; rfl)
    clear h0 HF
    go_wp2
    go_quiet (fail)
    clear ek et
    go_wp2
    go_ret
    rw [E.out]
    exact ⟨rfl, HB.out.os, HB.out.tape, HB.out.output, HB.out.size, HB.out.block⟩
   ·have E := Lib.hid (show risingL rs = risingA kz (rs.drop (k + 2)) by rw [HF.out, h0]; rfl)
    clear h0 HF
    go_wp2
    go_quiet (fail)
    clear ek et hx hy hx' hy'
    go_wp2
    go_roundw
    case rel => exact ⟨k + 1, by go_num, .inr ⟨hlt, by rw [← HKZ.out]; exact E.out⟩, ⟨HB.out.os, HB.out.tape, HB.out.output, HB.out.size, HB.out.block⟩⟩
    case measure => simp [intOf]; omega
  ·have E := Lib.hid (show risingL rs = true by
    rcases hf with ⟨_, h⟩ | ⟨h0, h⟩
    ·exact h
    ·rw [h, List.drop_eq_nil_of_le (by omega)]; rfl)
   have HB := Lib.hid hbel
   have hk1 : (rs.length : Int) ≤ ((k : Int) + 1) := by omega
   clear hf hbel
   go_wp2
   go_ret
   rw [E.out]
   exact ⟨rfl, HB.out⟩
end Go.Proofs.Ytmbkaedhllfoeaa
namespace Go.Proofs.Ytmbkaedhllfoeaa
open Go.RowKit Go.Rst
theorem rc_at {w : World} {A : Option Addr} {n c : Nat} {rs : List Chg} (h : RC w (.slice A n c) rs) {k : Nat} (hk : k < rs.length) :
  ∃ b off u, A = some ⟨b, off, none⟩ ∧ w.cell? ⟨b, off + k * 3, none⟩ = some (.string rs[k].1) ∧ w.cell? ⟨b, off + k * 3 + 1, none⟩ = some u ∧ RB w u rs[k].2.1 ∧ w.cell? ⟨b, off + k * 3 + 2, none⟩ = some (.bool rs[k].2.2) := by
 obtain ⟨A', c', he, _, _, h3⟩ := h
 injection he with e1 _ _
 subst e1
 rcases h3 with rfl | ⟨b, off, rfl, _, hc⟩
 ·simp at hk
 ·obtain ⟨h1, ⟨u, h2, h3⟩, h4⟩ := hc k hk
  exact ⟨b, off, u, rfl, h1, h2, h3, h4⟩
end Go.Proofs.Ytmbkaedhllfoeaa
