/-
 The contract of the store's Commit.; The contract of the store's Commit.; The contract of the store's Commit, whole.; Plain mathematics of a store: it stays as it should be, whatever is committed; whatever a crash leaves, its rows are found. No program.; The store's contracts where all its blocks are new: what was there stays.; The contracts of the statements' own Size and known: the chapter's examples hold.; Deeds that came in: how they lie; the contract of the statements' own much.; The walk of StoreGets: it answers true of any deeds and key.; Changes as literals, whose bytes are made on the spot.
-/
import Derived.BigQuiet
import Derived.Test.YtmbkaedhllfoeaaKVI
import Derived.Test.YtmbkaedhllfoeaaKVBF
import Derived.Test.YtmbkaedhllfoeaaKVCC
import Derived.Test.YtmbkaedhllfoeaaKVCD
import Derived.Test.YtmbkaedhllfoeaaKVDE
import Derived.Test.YtmbkaedhllfoeaaKVDI
import Derived.Test.YtmbkaedhllfoeaaKVEA
import Derived.Test.YtmbkaedhllfoeaaKVEF
import Derived.Test.YtmbkaedhllfoeaaKVEG
set_option linter.unusedVariables false
namespace Go.Proofs.Ytmbkaedhllfoeaa
open Go.RowKit Go.Rst Go.Dv Go.Crc Go.Str Go.Pg
theorem parts_len (e n : Int) (cs : List Chg) : (partsL e n cs).1.length ≤ 200 := by
 unfold partsL
 split
 ·exact Nat.zero_le _
 ·split
  ·exact Nat.zero_le _
  ·rw [secL_length]; omega
theorem layS_loose (s : Sim) (ep ar : Nat) (ps : List (List UInt8)) (h : ∀ p ∈ ps, p.length = 256) : (layS s ep ar ps).loose.length ≤ s.loose.length + ps.length * 4 + 1 := by
 unfold layS
 have h1 := flush_loose ((writeL s (firstN s.firm.length ar) (chunkL64 ps.flatten) (chunkL64 ps.flatten).length).flush.write ((ep % 2 : Nat) : Int) (Str.headL ep ar ps.length))
 have h2 := write_loose (writeL s (firstN s.firm.length ar) (chunkL64 ps.flatten) (chunkL64 ps.flatten).length).flush ((ep % 2 : Nat) : Int) (Str.headL ep ar ps.length)
 have h3 := flush_loose (writeL s (firstN s.firm.length ar) (chunkL64 ps.flatten) (chunkL64 ps.flatten).length)
 have h4 := writeL_loose s (firstN s.firm.length ar) (chunkL64 ps.flatten) (chunkL64 ps.flatten).length
 have h5 : (chunkL64 ps.flatten).length = ps.length * 4 := by unfold chunkL64; rw [List.length_map, List.length_range]; unfold of64; rw [flat256 h]; omega
 have h6 : ∀ k, k = ps.length * 4 → (writeL s (firstN s.firm.length ar) (chunkL64 ps.flatten) k).loose.length ≤ s.loose.length + ps.length * 4 := fun k hk => by have := writeL_loose s (firstN s.firm.length ar) (chunkL64 ps.flatten) k; omega
 have h7 := h6 _ h5
 omega
section
variable {D R M R3 E7 : Nat → Prop} {g dg : Nat} {rv rv3 : Value} {w w4 w7 w8 : World} {y z : Ss} {d8 : Sim} {rows3 : List Rw} {u f : Nat}
theorem fr_cells (W : World) (g : Nat) (a b c : Value) : Fr (fun j => j = g) W (((W.setCell ⟨g, 1, none⟩ a).setCell ⟨g, 4, none⟩ b).setCell ⟨g, 5, none⟩ c) :=
 Fr.setCell (p := ⟨g, 5, none⟩) (Fr.setCell (p := ⟨g, 4, none⟩) (Fr.setCell (p := ⟨g, 1, none⟩) (Fr.refl (fun j => j = g) W) (.inl rfl) a) (.inl rfl) b) (.inl rfl) c
theorem put_end (hT : StoA D R M g dg rv w4 y) (h3 : RO R3 w4 rv3 rows3) (h3d : ∀ k, R3 k → ¬ D k ∧ k ≠ g ∧ k < w4.heap.size) (hF7 : Fr D w4 w7) (hk7 : ∀ k, E7 k → D k ∨ w4.heap.size ≤ k)
  (hE8 : Dev E7 w8 (.pointer (some ⟨dg, 0, none⟩)) d8) (hF8 : Fr E7 w7 w8) (hB8 : Dv.Blk w8 g 75 (sc dg rv y)) (hz : z = ⟨d8, rows3, y.ep, y.ar, u, f⟩) :
  StoA E7 R3 (fun k => E7 k ∨ k = g ∨ R3 k) g dg rv3 (((w8.setCell ⟨g, 1, none⟩ rv3).setCell ⟨g, 4, none⟩ (.int .i64 (u : Int))).setCell ⟨g, 5, none⟩ (.int .i64 (f : Int))) z := by
 subst hz
 have hng : ¬ E7 g := fun hh => by
  rcases hk7 g hh with h1 | h1
  ·exact hT.hg h1
  ·have := hT.blk.lt; omega
 have h7 := hF7.size
 have h8 := hF8.size
 have hne : ∀ k, R3 k → ¬ E7 k := fun k hr hh => by
  rcases hk7 k hh with h1 | h1
  ·exact (h3d k hr).1 h1
  ·have := (h3d k hr).2.2; omega
 have hfc := fr_cells w8 g rv3 (.int .i64 (u : Int)) (.int .i64 (f : Int))
 have hs := hfc.size
 refine ⟨hE8.fr hfc (by rintro k rfl; exact hng), hng, fun k hr => ⟨hne k hr, (h3d k hr).2.1, by have := (h3d k hr).2.2; omega⟩, fun k => Iff.rfl, ((hB8.set_ 1 _).set_ 4 _).set_ 5 _, h3.keep (by omega) (fun k hr => ?_)⟩
 have h1 := (h3d k hr).2.2
 exact (hfc.block k (by omega) (by intro hkg; exact (h3d k hr).2.1 hkg)).trans ((hF8.block k (by omega) (hne k hr)).trans (hF7.block k h1 (h3d k hr).1))
theorem put_fr (hT : StoA D R M g dg rv w4 y) (hF7 : Fr D w4 w7) (hk7 : ∀ k, E7 k → D k ∨ w4.heap.size ≤ k) (hF8 : Fr E7 w7 w8) (a b c : Value) {N : Nat → Prop} (hN : Fr N w w4) (hM : ∀ k, M k → N k ∨ w.heap.size ≤ k) :
  Fr N w (((w8.setCell ⟨g, 1, none⟩ a).setCell ⟨g, 4, none⟩ b).setCell ⟨g, 5, none⟩ c) := by
 have hD : ∀ k, D k → N k ∨ w.heap.size ≤ k := fun k hk => hM k ((hT.hM k).2 (.inl hk))
 have h1 := hN.trans hF7 hD
 have h2 := h1.trans hF8 (fun k hk => by
  rcases hk7 k hk with h3 | h3
  ·exact hD k h3
  ·exact .inr (Nat.le_trans hN.size h3))
 exact h2.trans (fr_cells w8 g a b c) (by rintro k rfl; exact hM _ ((hT.hM _).2 (.inr (.inl rfl))))
theorem put_new (hT : StoA D R M g dg rv w4 y) (hk7 : ∀ k, E7 k → D k ∨ w4.heap.size ≤ k) {N : Nat → Prop} (hs : w.heap.size ≤ w4.heap.size) (h3 : ∀ k, R3 k → w.heap.size ≤ k) (hM : ∀ k, M k → N k ∨ w.heap.size ≤ k) :
  ∀ k, (E7 k ∨ k = g ∨ R3 k) → N k ∨ w.heap.size ≤ k := by
 rintro k (h | rfl | h)
 ·rcases hk7 k h with h1 | h1
  ·exact hM k ((hT.hM k).2 (.inl h1))
  ·exact .inr (by omega)
 ·exact hM _ ((hT.hM _).2 (.inr (.inl rfl)))
 ·exact .inr (h3 k h)
end
set_option maxRecDepth 100000 in
set_option maxHeartbeats 600000 in
theorem commit_put {dg : Nat} {M : Nat → Prop} {w : World} {sv lv : Value} {x : Ss} {cs : List Chg} (h : Sto dg M w sv x) (hG : GoodX x) (hc : CO M w lv cs) (hne : cs ≠ []) (hl : cs.any longC = false) (hcb : (chgsB cs).length ≤ 100000000) (hcs : cs.length ≤ 100000) (hcv : ∀ r ∈ cs, r.2.1.length ≤ 1000000000) (hp : (partsL (x.ep : Int) (x.fr : Int) cs).2 = true) (hp1 : (partsL (x.ep : Int) (x.fr : Int) cs).1.length ≤ jN x.n) (hft : fitB x.n (applyL x.rows cs) = true) (hroom : x.us + (partsL (x.ep : Int) (x.fr : Int) cs).1.length ≤ jN x.n) : Calls Try.prog 12 #[sv, lv] w fun e w' => e = .returned (.int .u16 0) ∧ SDid dg M w sv (putS x cs) w' := by
 obtain ⟨D, R, g, rv, rfl, h⟩ := h
 have HC := Lib.hid hc
 obtain ⟨A, c, rfl, hcc, hcm, _⟩ := hc.rc
 unfold maxLen at hcm
 have hcl : (0 : Int) < (cs.length : Int) := by have := List.length_pos_iff.2 hne; omega
 have hcl2 : ((cs.length : Int) == 0) = false := by rw [beq_eq_false_iff_ne]; omega
 have hcl3 : ¬ (cs.length : Int) = 0 := by omega
 have H := Lib.hid h
 have HL := Lib.hid (anyLong_any (.slice A cs.length c) cs w hc.rc)
 rw [hl] at HL
 obtain ⟨⟨P1, P2⟩, hPL⟩ : ∃ PL, PL = partsL (x.ep : Int) (x.fr : Int) cs := ⟨_, rfl⟩
 obtain ⟨J, hJ⟩ : ∃ J, J = jN x.n := ⟨_, rfl⟩
 obtain ⟨n, hn⟩ : ∃ n, n = x.d.firm.length := ⟨_, rfl⟩
 have hn64 : 64 ≤ n := by rw [hn]; exact hG.n
 have hn4 : n ≤ 4096 := by rw [hn]; exact hG.ok.n
 have hJn : J ≤ n := by rw [hJ, hn]; exact Nat.le_trans (jN_le x.d.firm.length) (Nat.div_le_self _ _)
 have hus : x.us ≤ J := by rw [hJ]; exact hG.us
 have hfr : x.fr ≤ J := Nat.le_trans hG.fr hus
 have hep := hG.ep
 have har := hG.ar
 have hlen := fun X (hX : Below w.heap.size w X) => len_any (h.dev.below hX)
 rw [← hn] at hlen
 have hlay := fun X => layout_any (n : Int) (by omega) (by omega) X
 rw [layJ_nat, layA_nat, hn, ← hJ, ← hn] at hlay
 have HLEN := Lib.hid hlen
 have HLAY := Lib.hid hlay
 have hpa := fun X (hX : Fr M w X) => parts_any (x.ep : Int) (x.fr : Int) _ cs X (hc X hX) hcb (by omega) (fun r hr => hcv r hr)
 rw [← hPL] at hpa
 have HPA := Lib.hid hpa
 have hcells := fun X (hX : Below w.heap.size w X) => h.blk.below hX h.blk.lt
 have HCE := Lib.hid hcells
 have HPL := Lib.hid hPL
 have HJ := Lib.hid hJ
 have HNN := Lib.hid hn
 have HG := Lib.hid hG
 obtain ⟨Ar, cr, hrv, hrc1, hrc2⟩ := rr_shape h.rows.rr
 subst hrv
 obtain ⟨RO', hRO⟩ : ∃ r, r = applyL x.rows cs := ⟨_, rfl⟩
 have HRO := Lib.hid hRO
 obtain ⟨FB_, hFB⟩ : ∃ b, b = fitB n (applyL x.rows cs) := ⟨_, rfl⟩
 have HFB := Lib.hid hFB
 rw [← hPL, ← hJ] at hroom
 simp only at hroom
 rw [← hPL] at hp
 rw [← hPL, ← hJ] at hp1
 simp only at hp hp1
 subst hp
 have hft2 : fitB n RO' = true := by rw [hRO, hn]; exact hft
 have hp1' : ¬ (J : Int) < (P1.length : Int) := by omega
 have HF2 := Lib.hid hft2
 have hroom' : ¬ (J : Int) < (x.us : Int) + (P1.length : Int) := by omega
 have hlo := hG.lo
 clear h hc hG hPL hJ hn hlen hlay hpa hcells hcb hRO hFB hft hft2
 go_enter Try.func12, Try.ntmps12
 go_wp2_with fail
 go_at_call 34
 refine HL.out.mono ?_
 rintro e w1 ⟨rfl, hb1⟩
 have HB1 := Lib.hid hb1
 clear hb1
 have c0 := (HCE.out _ HB1.out).cell 0
 have c1 := (HCE.out _ HB1.out).cell 1
 have c2 := (HCE.out _ HB1.out).cell 2
 have c3 := (HCE.out _ HB1.out).cell 3
 have c4 := (HCE.out _ HB1.out).cell 4
 have c5 := (HCE.out _ HB1.out).cell 5
 unfold sc at c0 c1 c2 c3 c4 c5
 simp at c0 c1 c2 c3 c4 c5
 go_wp2_with (first | (go_at_call 17; refine (HLEN.out _ HB1.out).mono ?_; rintro e wx ⟨rfl, rfl⟩) | (go_at_call 18; refine (HLAY.out _).mono ?_; rintro e wx ⟨rfl, rfl⟩))
 refine wp_region_held_drew (S := fun X => Below w.heap.size w X) (by kernel_rfl) HB1.out.drew (fun hHeld => ?_)
 refine wpAnyH_take (i := 0) (oi := { dst := some 28, op := Op.move (Operand.tmp 0), type := 29, pos := "store.go:84", after := #[], guard := none }) (v := ?_) rfl (by kernel_rfl) (by kernel_rfl) (by kernel_rfl) (fun _ _ _ h => h) (Or.inl ⟨by rfl, ?_⟩) (by assumption) ?_
 rotate_left
 ·intro X hSw; go_simp; try (with_reducible rfl)
 try simp only [Act.put, List.setIfInBounds_toArray, List.set_cons_zero, List.set_cons_succ]
 refine wpAnyH_take (i := 1) (oi := { dst := some 29, op := Op.nilCheck (Operand.tmp 28), type := 0, pos := "store.go:84", after := #[{ on := 0, ground := Ground.data }], guard := none }) (v := ?_) rfl (by kernel_rfl) (by kernel_rfl) (by kernel_rfl) (fun _ _ _ h => h) (Or.inl ⟨by rfl, ?_⟩) (by assumption) ?_
 rotate_left
 ·intro X hSw; go_simp; try (with_reducible rfl)
 try simp only [Act.put, List.setIfInBounds_toArray, List.set_cons_zero, List.set_cons_succ]
 refine wpAnyH_take (i := 2) (oi := { dst := some 30, op := Op.fieldAddr 75 (Operand.tmp 29) 2, type := 0, pos := "store.go:84", after := #[{ on := 1, ground := Ground.data }], guard := none }) (v := ?_) rfl (by kernel_rfl) (by kernel_rfl) (by kernel_rfl) (fun _ _ _ h => h) (Or.inl ⟨by rfl, ?_⟩) (by assumption) ?_
 rotate_left
 ·intro X hSw; go_simp; try (with_reducible rfl)
 try simp only [Act.put, List.setIfInBounds_toArray, List.set_cons_zero, List.set_cons_succ]
 refine wpAnyH_take (i := 3) (oi := { dst := some 31, op := Op.load 3 (Operand.tmp 30), type := 3, pos := "store.go:84", after := #[{ on := 2, ground := Ground.data }], guard := none }) (v := ?_) rfl (by kernel_rfl) (by kernel_rfl) (by kernel_rfl) (fun _ _ _ h => h) (Or.inl ⟨by rfl, ?_⟩) (by assumption) ?_
 rotate_left
 ·intro X hSw; have zb := HCE.out _ hSw; have z2 := zb.cell 2; have z5 := zb.cell 5; unfold sc at z2 z5; simp at z2 z5; go_simp; try (with_reducible rfl)
 try simp only [Act.put, List.setIfInBounds_toArray, List.set_cons_zero, List.set_cons_succ]
 refine wpAnyH_take (i := 4) (oi := { dst := some 32, op := Op.move (Operand.tmp 0), type := 29, pos := "store.go:84", after := #[], guard := none }) (v := ?_) rfl (by kernel_rfl) (by kernel_rfl) (by kernel_rfl) (fun _ _ _ h => h) (Or.inl ⟨by rfl, ?_⟩) (by assumption) ?_
 rotate_left
 ·intro X hSw; go_simp; try (with_reducible rfl)
 try simp only [Act.put, List.setIfInBounds_toArray, List.set_cons_zero, List.set_cons_succ]
 refine wpAnyH_take (i := 5) (oi := { dst := some 33, op := Op.nilCheck (Operand.tmp 32), type := 0, pos := "store.go:84", after := #[{ on := 4, ground := Ground.data }], guard := none }) (v := ?_) rfl (by kernel_rfl) (by kernel_rfl) (by kernel_rfl) (fun _ _ _ h => h) (Or.inl ⟨by rfl, ?_⟩) (by assumption) ?_
 rotate_left
 ·intro X hSw; go_simp; try (with_reducible rfl)
 try simp only [Act.put, List.setIfInBounds_toArray, List.set_cons_zero, List.set_cons_succ]
 refine wpAnyH_take (i := 6) (oi := { dst := some 34, op := Op.fieldAddr 75 (Operand.tmp 33) 5, type := 0, pos := "store.go:84", after := #[{ on := 5, ground := Ground.data }], guard := none }) (v := ?_) rfl (by kernel_rfl) (by kernel_rfl) (by kernel_rfl) (fun _ _ _ h => h) (Or.inl ⟨by rfl, ?_⟩) (by assumption) ?_
 rotate_left
 ·intro X hSw; go_simp; try (with_reducible rfl)
 try simp only [Act.put, List.setIfInBounds_toArray, List.set_cons_zero, List.set_cons_succ]
 refine wpAnyH_take (i := 7) (oi := { dst := some 35, op := Op.load 3 (Operand.tmp 34), type := 3, pos := "store.go:84", after := #[{ on := 6, ground := Ground.data }], guard := none }) (v := ?_) rfl (by kernel_rfl) (by kernel_rfl) (by kernel_rfl) (fun _ _ _ h => h) (Or.inl ⟨by rfl, ?_⟩) (by assumption) ?_
 rotate_left
 ·intro X hSw; have zb := HCE.out _ hSw; have z2 := zb.cell 2; have z5 := zb.cell 5; unfold sc at z2 z5; simp at z2 z5; go_simp; try (with_reducible rfl)
 try simp only [Act.put, List.setIfInBounds_toArray, List.set_cons_zero, List.set_cons_succ]
 refine wpAnyH_take (i := 8) (oi := { dst := some 36, op := Op.move (Operand.tmp 1), type := 34, pos := "store.go:84", after := #[], guard := none }) (v := ?_) rfl (by kernel_rfl) (by kernel_rfl) (by kernel_rfl) (fun _ _ _ h => h) (Or.inl ⟨by rfl, ?_⟩) (by assumption) ?_
 rotate_left
 ·intro X hSw; go_simp; try (with_reducible rfl)
 try simp only [Act.put, List.setIfInBounds_toArray, List.set_cons_zero, List.set_cons_succ]
 refine wpAnyH_ready (rs := [9]) (by kernel_rfl) (by simp) ?_
 refine AllReadyH.cons (o := { dst := some 37, op := Op.call { callee := Callee.value (Operand.func 10), args := #[Operand.tmp 31, Operand.tmp 35, Operand.tmp 36], argTypes := #[3, 3, 34] }, type := 36, pos := "store.go:84", after := #[{ on := 3, ground := Ground.data }, { on := 7, ground := Ground.data }, { on := 8, ground := Ground.data }], guard := none }) rfl (fun K hK => ?_) AllReadyH.nil
 go_simp
 refine (HPA.out _ (Fr.of_below hHeld)).mono ?_
 rintro e w2 ⟨pv, rfl, hop, hb2⟩
 obtain ⟨Ap, cp, hpv, hpc1, hpc2⟩ := hop.shape
 subst hpv
 have HOP := Lib.hid hop
 have HB2 := Lib.hid (hHeld.trans (hb2.mono hHeld.size))
 have HSZ := Lib.hid (show w.heap.size ≤ w1.drew.heap.size from hHeld.size)
 clear hop hb2
 try (go_wp2_with fail)
 have hHeld' := HB2.out
 refine hK.out _ _ ?_ (fun _ => ?_)
 ·exact hHeld'
 clear hK K hHeld
 have hHeld := hHeld'
 clear hHeld'
 try simp only [Act.put, List.setIfInBounds_toArray, List.set_cons_zero, List.set_cons_succ]
 refine wpAnyH_take (i := 10) (oi := { dst := some 27, op := Op.move (Operand.tmp 37), type := 36, pos := "store.go:84", after := #[{ on := 9, ground := Ground.data }], guard := none }) (v := ?_) rfl (by kernel_rfl) (by kernel_rfl) (by kernel_rfl) (fun _ _ _ h => h) (Or.inl ⟨by rfl, ?_⟩) (by assumption) ?_
 rotate_left
 ·intro X hSw; go_simp; try (with_reducible rfl)
 try simp only [Act.put, List.setIfInBounds_toArray, List.set_cons_zero, List.set_cons_succ]
 refine wpAnyH_take (i := 11) (oi := { dst := some 38, op := Op.extract (Operand.tmp 27) 0, type := 35, pos := "store.go:84", after := #[{ on := 10, ground := Ground.data }], guard := none }) (v := ?_) rfl (by kernel_rfl) (by kernel_rfl) (by kernel_rfl) (fun _ _ _ h => h) (Or.inl ⟨by rfl, ?_⟩) (by assumption) ?_
 rotate_left
 ·intro X hSw; go_simp; try (with_reducible rfl)
 try simp only [Act.put, List.setIfInBounds_toArray, List.set_cons_zero, List.set_cons_succ]
 refine wpAnyH_take (i := 12) (oi := { dst := some 39, op := Op.extract (Operand.tmp 27) 1, type := 4, pos := "store.go:84", after := #[{ on := 10, ground := Ground.data }, { on := 13, ground := Ground.gcOnly Departure.lateStores }], guard := none }) (v := ?_) rfl (by kernel_rfl) (by kernel_rfl) (by kernel_rfl) (fun _ _ _ h => h) (Or.inl ⟨by rfl, ?_⟩) (by assumption) ?_
 rotate_left
 ·intro X hSw; go_simp; try (with_reducible rfl)
 try simp only [Act.put, List.setIfInBounds_toArray, List.set_cons_zero, List.set_cons_succ]
 refine wpAnyH_take (i := 13) (oi := { dst := some 7, op := Op.assign (Operand.tmp 38), type := 35, pos := "store.go:84", after := #[{ on := 11, ground := Ground.data }, { on := 9, ground := Ground.chain }, { on := 0, ground := Ground.phase }, { on := 1, ground := Ground.phase }, { on := 2, ground := Ground.phase }, { on := 3, ground := Ground.phase }, { on := 4, ground := Ground.phase }, { on := 5, ground := Ground.phase }, { on := 6, ground := Ground.phase }, { on := 7, ground := Ground.phase }, { on := 8, ground := Ground.phase }, { on := 9, ground := Ground.phase }, { on := 10, ground := Ground.phase }, { on := 11, ground := Ground.phase }, { on := 12, ground := Ground.textOnly Departure.lateStores }], guard := none }) (v := ?_) rfl (by kernel_rfl) (by kernel_rfl) (by kernel_rfl) (fun _ _ _ h => h) (Or.inl ⟨by rfl, ?_⟩) (by assumption) ?_
 rotate_left
 ·intro X hSw; go_simp; try (with_reducible rfl)
 try simp only [Act.put, List.setIfInBounds_toArray, List.set_cons_zero, List.set_cons_succ]
 refine wpAnyH_take (i := 14) (oi := { dst := some 8, op := Op.assign (Operand.tmp 39), type := 4, pos := "store.go:84", after := #[{ on := 12, ground := Ground.data }, { on := 13, ground := Ground.chain }, { on := 0, ground := Ground.phase }, { on := 1, ground := Ground.phase }, { on := 2, ground := Ground.phase }, { on := 3, ground := Ground.phase }, { on := 4, ground := Ground.phase }, { on := 5, ground := Ground.phase }, { on := 6, ground := Ground.phase }, { on := 7, ground := Ground.phase }, { on := 8, ground := Ground.phase }, { on := 9, ground := Ground.phase }, { on := 10, ground := Ground.phase }, { on := 11, ground := Ground.phase }, { on := 12, ground := Ground.phase }, { on := 13, ground := Ground.phase }], guard := none }) (v := ?_) rfl (by kernel_rfl) (by kernel_rfl) (by kernel_rfl) (fun _ _ _ h => h) (Or.inl ⟨by rfl, ?_⟩) (by assumption) ?_
 rotate_left
 ·intro X hSw; go_simp; try (with_reducible rfl)
 try simp only [Act.put, List.setIfInBounds_toArray, List.set_cons_zero, List.set_cons_succ]
 refine wpAnyH_done (by kernel_rfl) ?_ _
 clear hHeld c0 c1 c2 c3 c4 c5
 have d0 := (HCE.out _ HB2.out).cell 0
 have d1 := (HCE.out _ HB2.out).cell 1
 have d4 := (HCE.out _ HB2.out).cell 4
 unfold sc at d0 d1 d4
 simp at d0 d1 d4
 have hap := apply_any (.slice Ar x.rows.length cr) (.slice A cs.length c) x.rows cs w2 (H.out.rows.keep HB2.out.size (fun k hr => HB2.out.block k (H.out.hR k hr).2.2)).rr (rows_few_ HG.out).1 (HC.out _ (Fr.of_below HB2.out)) (by have := (rows_few_ HG.out).2; omega) (fun r hr => Nat.le_trans (rows_val HG.out r hr) (by decide)) (fun r hr => Nat.le_trans (hcv r hr) (by decide))
 rw [← HRO.out] at hap
 have HAP := Lib.hid hap
 clear hap
 go_wp2_with fail
 go_at_call 27
 refine HAP.out.mono ?_
 rintro e w3 ⟨rv3, rfl, hor3, hb3⟩
 have HB3 := Lib.hid (HB2.out.trans (hb3.mono HB2.out.size))
 have HOR := Lib.hid hor3
 have HB23 := Lib.hid hb3
 have hs23 : w2.heap.size ≤ w3.heap.size := hb3.size
 obtain ⟨A3, c3, hrv3, hrc31, hrc32⟩ := rr_shape hor3.rr
 subst hrv3
 clear hor3 hb3 d0 d1 d4
 have g0 := (HCE.out _ HB3.out).cell 0
 have g4 := (HCE.out _ HB3.out).cell 4
 unfold sc at g0 g4
 simp at g0 g4
 have HFT := Lib.hid (sfit_any (H.out.dev.below HB3.out) _ _ HOR.out.rr)
 rw [← HNN.out] at HFT
 go_wp2_with fail
 go_at_call 29
 refine HFT.out.mono ?_
 rintro e w4 ⟨rfl, hb4⟩
 have HB4 := Lib.hid (HB3.out.trans (hb4.mono HB3.out.size))
 have HB34 := Lib.hid hb4
 clear hb4 g0 g4
 have k4 := (HCE.out _ HB4.out).cell 4
 have k0 := (HCE.out _ HB4.out).cell 0
 unfold sc at k4 k0
 simp at k4 k0
 rw [HF2.out]
 have HT := Lib.hid (H.out.below HB4.out)
 have HDB := Lib.hid H.out.dev.lt
 have HBS := Lib.hid (show w.heap.size ≤ w4.drew.heap.size from HB4.out.size)
 have h24 := HB34.out
 have hs34 := h24.size
 have HPN := Lib.hid ((HOP.out.pn.base_ HSZ.out).below (show Below w2.heap.size w2 w4 from HB23.out.trans (HB34.out.mono hs23)))
 have HLO := Lib.hid (show x.d.loose.length + P1.length < 100000 by omega)
 have HR3 := Lib.hid ((or_ro HOR.out (Nat.le_refl _)).keep hs34 (fun k hr => HB34.out.block k hr.2))
 obtain ⟨R3, hR3⟩ : ∃ R3 : Nat → Prop, R3 = fun k => w2.heap.size ≤ k ∧ k < w3.heap.size := ⟨_, rfl⟩
 rw [← hR3] at HR3
 have hs2 := HB2.out.size
 have HR3D := Lib.hid (show ∀ k, R3 k → ¬ D k ∧ k ≠ g ∧ k < w4.heap.size by intro k hr; rw [hR3] at hr; refine ⟨fun hd => ?_, fun he => ?_, by omega⟩; have := H.out.dev.lt k hd; omega; have := H.out.blk.lt; omega)
 have HYE := Lib.hid (show putS x cs = ⟨(writeL x.d (2 + x.us) P1 P1.length).flush, RO', x.ep, x.ar, x.us + P1.length, x.fr + 1⟩ by unfold putS; rw [← HPL.out, HRO.out])
 have HFM := Lib.hid (Fr.of_below (D := M) HB4.out)
 have HMD := Lib.hid (fun k (hk : M k) => (Or.inl hk : M k ∨ w.heap.size ≤ k))
 have HNEW := Lib.hid (show ∀ k, R3 k → w.heap.size ≤ k by intro k hr; rw [hR3] at hr; omega)
 clear hR3
 have hbT : Dv.Blk w4 g 75 #[dv (.pointer (some ⟨dg, 0, none⟩)), .slice Ar x.rows.length cr, .int .i64 (x.ep : Int), .int .i64 (x.ar : Int), .int .i64 (x.us : Int), .int .i64 (x.fr : Int)] := HT.out.blk
 have HBT := Lib.hid hbT
 have hwr := wr_any (w := w4.drew) (2 + x.us) (.slice Ap P1.length cp) P1 w.heap.size (HT.out.dev.below (Below.refl _ _).drew) HDB.out HBS.out (HPN.out.below (Below.refl _ _).drew) (by have := HLO.out; omega) (by omega)
 have hcu : ((2 + x.us : Nat) : Int) = 2 + (x.us : Int) := by omega
 rw [hcu] at hwr
 have HWR := Lib.hid hwr
 have hwu : IntKind.i64.wrap (2 + (x.us : Int)) = 2 + (x.us : Int) := by rw [IntKind.wrap_i64]; omega
 clear hwr hbT hcu
 go_wp2_with fail
 refine wp_region_held_drew (S := fun X => Dv.Blk X g 75 #[dv (.pointer (some ⟨dg, 0, none⟩)), .slice Ar x.rows.length cr, .int .i64 (x.ep : Int), .int .i64 (x.ar : Int), .int .i64 (x.us : Int), .int .i64 (x.fr : Int)]) (by kernel_rfl) HBT.out (fun hHeld => ?_)
 refine wpAnyH_take (i := 0) (oi := { dst := some 88, op := Op.move (Operand.tmp 0), type := 29, pos := "store.go:98", after := #[], guard := none }) (v := ?_) rfl (by kernel_rfl) (by kernel_rfl) (by kernel_rfl) (fun _ _ _ h => h) (Or.inl ⟨by rfl, ?_⟩) (by assumption) ?_
 rotate_left
 ·intro X hSw; go_simp; try (with_reducible rfl)
 try simp only [Act.put, List.setIfInBounds_toArray, List.set_cons_zero, List.set_cons_succ]
 refine wpAnyH_take (i := 1) (oi := { dst := some 89, op := Op.nilCheck (Operand.tmp 88), type := 0, pos := "store.go:98", after := #[{ on := 0, ground := Ground.data }], guard := none }) (v := ?_) rfl (by kernel_rfl) (by kernel_rfl) (by kernel_rfl) (fun _ _ _ h => h) (Or.inl ⟨by rfl, ?_⟩) (by assumption) ?_
 rotate_left
 ·intro X hSw; go_simp; try (with_reducible rfl)
 try simp only [Act.put, List.setIfInBounds_toArray, List.set_cons_zero, List.set_cons_succ]
 refine wpAnyH_take (i := 2) (oi := { dst := some 90, op := Op.fieldAddr 75 (Operand.tmp 89) 0, type := 0, pos := "store.go:98", after := #[{ on := 1, ground := Ground.data }], guard := none }) (v := ?_) rfl (by kernel_rfl) (by kernel_rfl) (by kernel_rfl) (fun _ _ _ h => h) (Or.inl ⟨by rfl, ?_⟩) (by assumption) ?_
 rotate_left
 ·intro X hSw; go_simp; try (with_reducible rfl)
 try simp only [Act.put, List.setIfInBounds_toArray, List.set_cons_zero, List.set_cons_succ]
 refine wpAnyH_take (i := 3) (oi := { dst := some 91, op := Op.load 73 (Operand.tmp 90), type := 73, pos := "store.go:98", after := #[{ on := 2, ground := Ground.data }], guard := none }) (v := ?_) rfl (by kernel_rfl) (by kernel_rfl) (by kernel_rfl) (fun _ _ _ h => h) (Or.inl ⟨by rfl, ?_⟩) (by assumption) ?_
 rotate_left
 ·intro X hSw; have z0 := hSw.cell 0; have z4 := hSw.cell 4; simp at z0 z4; go_simp; try (with_reducible rfl)
 try simp only [Act.put, List.setIfInBounds_toArray, List.set_cons_zero, List.set_cons_succ]
 refine wpAnyH_take (i := 4) (oi := { dst := some 92, op := Op.move (Operand.tmp 0), type := 29, pos := "store.go:98", after := #[], guard := none }) (v := ?_) rfl (by kernel_rfl) (by kernel_rfl) (by kernel_rfl) (fun _ _ _ h => h) (Or.inl ⟨by rfl, ?_⟩) (by assumption) ?_
 rotate_left
 ·intro X hSw; go_simp; try (with_reducible rfl)
 try simp only [Act.put, List.setIfInBounds_toArray, List.set_cons_zero, List.set_cons_succ]
 refine wpAnyH_take (i := 5) (oi := { dst := some 93, op := Op.nilCheck (Operand.tmp 92), type := 0, pos := "store.go:98", after := #[{ on := 4, ground := Ground.data }], guard := none }) (v := ?_) rfl (by kernel_rfl) (by kernel_rfl) (by kernel_rfl) (fun _ _ _ h => h) (Or.inl ⟨by rfl, ?_⟩) (by assumption) ?_
 rotate_left
 ·intro X hSw; go_simp; try (with_reducible rfl)
 try simp only [Act.put, List.setIfInBounds_toArray, List.set_cons_zero, List.set_cons_succ]
 refine wpAnyH_take (i := 6) (oi := { dst := some 94, op := Op.fieldAddr 75 (Operand.tmp 93) 4, type := 0, pos := "store.go:98", after := #[{ on := 5, ground := Ground.data }], guard := none }) (v := ?_) rfl (by kernel_rfl) (by kernel_rfl) (by kernel_rfl) (fun _ _ _ h => h) (Or.inl ⟨by rfl, ?_⟩) (by assumption) ?_
 rotate_left
 ·intro X hSw; go_simp; try (with_reducible rfl)
 try simp only [Act.put, List.setIfInBounds_toArray, List.set_cons_zero, List.set_cons_succ]
 refine wpAnyH_take (i := 7) (oi := { dst := some 95, op := Op.load 3 (Operand.tmp 94), type := 3, pos := "store.go:98", after := #[{ on := 6, ground := Ground.data }], guard := none }) (v := ?_) rfl (by kernel_rfl) (by kernel_rfl) (by kernel_rfl) (fun _ _ _ h => h) (Or.inl ⟨by rfl, ?_⟩) (by assumption) ?_
 rotate_left
 ·intro X hSw; have z0 := hSw.cell 0; have z4 := hSw.cell 4; simp at z0 z4; go_simp; try (with_reducible rfl)
 try simp only [Act.put, List.setIfInBounds_toArray, List.set_cons_zero, List.set_cons_succ]
 refine wpAnyH_take (i := 8) (oi := { dst := some 96, op := Op.binOp BinOp.add 3 (Operand.const (Value.int IntKind.i64 2)) (Operand.tmp 95) 3, type := 3, pos := "store.go:98", after := #[{ on := 7, ground := Ground.data }], guard := none }) (v := ?_) rfl (by kernel_rfl) (by kernel_rfl) (by kernel_rfl) (fun _ _ _ h => h) (Or.inl ⟨by rfl, ?_⟩) (by assumption) ?_
 rotate_left
 ·intro X hSw; go_simp; try (with_reducible rfl)
 try simp only [Act.put, List.setIfInBounds_toArray, List.set_cons_zero, List.set_cons_succ]
 refine wpAnyH_take (i := 9) (oi := { dst := some 97, op := Op.move (Operand.tmp 7), type := 35, pos := "store.go:98", after := #[], guard := none }) (v := ?_) rfl (by kernel_rfl) (by kernel_rfl) (by kernel_rfl) (fun _ _ _ h => h) (Or.inl ⟨by rfl, ?_⟩) (by assumption) ?_
 rotate_left
 ·intro X hSw; go_simp; try (with_reducible rfl)
 try simp only [Act.put, List.setIfInBounds_toArray, List.set_cons_zero, List.set_cons_succ]
 refine wpAnyH_ready (rs := [10]) (by kernel_rfl) (by simp) ?_
 refine AllReadyH.cons (o := { dst := some 98, op := Op.call { callee := Callee.value (Operand.func 19), args := #[Operand.tmp 91, Operand.tmp 96, Operand.tmp 97], argTypes := #[73, 3, 35] }, type := 0, pos := "store.go:98", after := #[{ on := 3, ground := Ground.data }, { on := 8, ground := Ground.data }, { on := 9, ground := Ground.data }], guard := none }) rfl (fun K hK => ?_) AllReadyH.nil
 go_simp
 refine HWR.out.mono ?_
 rintro e w7 ⟨rfl, E7, hE7, hF7, hk7⟩
 have HB7 := Lib.hid (show Dv.Blk w7 g 75 #[dv (.pointer (some ⟨dg, 0, none⟩)), .slice Ar x.rows.length cr, .int .i64 (x.ep : Int), .int .i64 (x.ar : Int), .int .i64 (x.us : Int), .int .i64 (x.fr : Int)] from HBT.out.same (hF7.block g HBT.out.lt HT.out.hg))
 have HE7 := Lib.hid hE7
 have HF7 := Lib.hid (show Fr D w4 w7 from (Fr.refl D w4).drew.trans hF7 (fun _ h => .inl h))
 have HK7 := Lib.hid (show ∀ k, E7 k → D k ∨ w4.heap.size ≤ k from hk7)
 clear hE7 hF7 hk7
 try (go_wp2_with fail)
 have hHeld' := HB7.out
 refine hK.out _ _ ?_ (fun _ => ?_)
 ·exact hHeld'
 clear hK K hHeld
 have hHeld := hHeld'
 clear hHeld'
 try simp only [Act.put, List.setIfInBounds_toArray, List.set_cons_zero, List.set_cons_succ]
 refine wpAnyH_done (by kernel_rfl) ?_ _
 clear hHeld
 have p0 := HB7.out.cell 0
 simp at p0
 go_wp2_with fail
 go_at_call 20
 refine (flush_any HE7.out).mono ?_
 rintro e w8 ⟨rfl, hF8, hE8⟩
 have hng : ¬ E7 g := fun hh => by rcases HK7.out g hh with h1 | h1; exact HT.out.hg h1; have := HT.out.blk.lt; omega
 have HB8 := Lib.hid (show Dv.Blk w8 g 75 #[dv (.pointer (some ⟨dg, 0, none⟩)), .slice Ar x.rows.length cr, .int .i64 (x.ep : Int), .int .i64 (x.ar : Int), .int .i64 (x.us : Int), .int .i64 (x.fr : Int)] from HB7.out.same (hF8.block g HB7.out.lt hng))
 have HE8 := Lib.hid hE8
 have HF8 := Lib.hid hF8
 have HNG := Lib.hid hng
 have q1 := HB8.out.cell 1
 have q4 := HB8.out.cell 4
 have q5 := HB8.out.cell 5
 have y1 := HB8.out.frozen 1
 have y4 := HB8.out.frozen 4
 have y5 := HB8.out.frozen 5
 simp at q1 q4 q5
 clear hF8 hE8 hng p0
 have hwu2 : IntKind.i64.wrap ((x.us : Int) + (P1.length : Int)) = (x.us : Int) + (P1.length : Int) := by rw [IntKind.wrap_i64]; omega
 have hwf2 : IntKind.i64.wrap ((x.fr : Int) + 1) = (x.fr : Int) + 1 := by rw [IntKind.wrap_i64]; omega
 go_wp2
 go_ret
 refine ⟨rfl, fun k => E7 k ∨ k = g ∨ R3 k, ⟨E7, R3, g, .slice A3 RO'.length c3, rfl, ?_⟩, ?_, ?_⟩
 ·exact put_end HT.out HR3.out HR3D.out HF7.out HK7.out HE8.out HF8.out HB8.out HYE.out
 ·exact put_fr HT.out HF7.out HK7.out HF8.out _ _ _ HFM.out HMD.out
 ·exact put_new HT.out HK7.out HFM.out.size HNEW.out HMD.out
end Go.Proofs.Ytmbkaedhllfoeaa
namespace Go.Proofs.Ytmbkaedhllfoeaa
open Go.RowKit Go.Rst Go.Dv Go.Crc Go.Str Go.Pg
set_option maxRecDepth 100000 in
set_option maxHeartbeats 600000 in
theorem commit_over {dg : Nat} {M : Nat → Prop} {w : World} {sv lv : Value} {x : Ss} {cs : List Chg} (h : Sto dg M w sv x) (hG : GoodX x) (hc : CO M w lv cs) (hne : cs ≠ []) (hl : cs.any longC = false) (hcb : (chgsB cs).length ≤ 100000000) (hcs : cs.length ≤ 100000) (hcv : ∀ r ∈ cs, r.2.1.length ≤ 1000000000) (hp : (partsL (x.ep : Int) (x.fr : Int) cs).2 = true) (hp1 : (partsL (x.ep : Int) (x.fr : Int) cs).1.length ≤ jN x.n) (hft : fitB x.n (applyL x.rows cs) = true) (hroom : jN x.n < x.us + (partsL (x.ep : Int) (x.fr : Int) cs).1.length) (hov : x.ep = 1073741824) : Calls Try.prog 12 #[sv, lv] w fun e w' => e = .returned (.int .u16 32) ∧ Below w.heap.size w w' := by
 obtain ⟨D, R, g, rv, rfl, h⟩ := h
 have HC := Lib.hid hc
 obtain ⟨A, c, rfl, hcc, hcm, _⟩ := hc.rc
 unfold maxLen at hcm
 have hcl : (0 : Int) < (cs.length : Int) := by have := List.length_pos_iff.2 hne; omega
 have hcl2 : ((cs.length : Int) == 0) = false := by rw [beq_eq_false_iff_ne]; omega
 have hcl3 : ¬ (cs.length : Int) = 0 := by omega
 have H := Lib.hid h
 have HL := Lib.hid (anyLong_any (.slice A cs.length c) cs w hc.rc)
 rw [hl] at HL
 obtain ⟨⟨P1, P2⟩, hPL⟩ : ∃ PL, PL = partsL (x.ep : Int) (x.fr : Int) cs := ⟨_, rfl⟩
 obtain ⟨J, hJ⟩ : ∃ J, J = jN x.n := ⟨_, rfl⟩
 obtain ⟨n, hn⟩ : ∃ n, n = x.d.firm.length := ⟨_, rfl⟩
 have hn64 : 64 ≤ n := by rw [hn]; exact hG.n
 have hn4 : n ≤ 4096 := by rw [hn]; exact hG.ok.n
 have hJn : J ≤ n := by rw [hJ, hn]; exact Nat.le_trans (jN_le x.d.firm.length) (Nat.div_le_self _ _)
 have hus : x.us ≤ J := by rw [hJ]; exact hG.us
 have hfr : x.fr ≤ J := Nat.le_trans hG.fr hus
 have hep := hG.ep
 have har := hG.ar
 have hlen := fun X (hX : Below w.heap.size w X) => len_any (h.dev.below hX)
 rw [← hn] at hlen
 have hlay := fun X => layout_any (n : Int) (by omega) (by omega) X
 rw [layJ_nat, layA_nat, hn, ← hJ, ← hn] at hlay
 have HLEN := Lib.hid hlen
 have HLAY := Lib.hid hlay
 have hpa := fun X (hX : Fr M w X) => parts_any (x.ep : Int) (x.fr : Int) _ cs X (hc X hX) hcb (by omega) (fun r hr => hcv r hr)
 rw [← hPL] at hpa
 have HPA := Lib.hid hpa
 have hcells := fun X (hX : Below w.heap.size w X) => h.blk.below hX h.blk.lt
 have HCE := Lib.hid hcells
 have HPL := Lib.hid hPL
 have HJ := Lib.hid hJ
 have HNN := Lib.hid hn
 have HG := Lib.hid hG
 obtain ⟨Ar, cr, hrv, hrc1, hrc2⟩ := rr_shape h.rows.rr
 subst hrv
 obtain ⟨RO', hRO⟩ : ∃ r, r = applyL x.rows cs := ⟨_, rfl⟩
 have HRO := Lib.hid hRO
 obtain ⟨FB_, hFB⟩ : ∃ b, b = fitB n (applyL x.rows cs) := ⟨_, rfl⟩
 have HFB := Lib.hid hFB
 rw [← hPL, ← hJ] at hroom
 simp only at hroom
 rw [← hPL] at hp
 rw [← hPL, ← hJ] at hp1
 simp only at hp hp1
 subst hp
 have hft2 : fitB n RO' = true := by rw [hRO, hn]; exact hft
 have hp1' : ¬ (J : Int) < (P1.length : Int) := by omega
 have HF2 := Lib.hid hft2
 have hroom' : (J : Int) < (x.us : Int) + (P1.length : Int) := by omega
 have HOV := Lib.hid hov
 clear h hc hG hPL hJ hn hlen hlay hpa hcells hcb hRO hFB hft hft2 hov
 go_enter Try.func12, Try.ntmps12
 go_wp2_with fail
 go_at_call 34
 refine HL.out.mono ?_
 rintro e w1 ⟨rfl, hb1⟩
 have HB1 := Lib.hid hb1
 clear hb1
 have c0 := (HCE.out _ HB1.out).cell 0
 have c1 := (HCE.out _ HB1.out).cell 1
 have c2 := (HCE.out _ HB1.out).cell 2
 have c3 := (HCE.out _ HB1.out).cell 3
 have c4 := (HCE.out _ HB1.out).cell 4
 have c5 := (HCE.out _ HB1.out).cell 5
 unfold sc at c0 c1 c2 c3 c4 c5
 simp at c0 c1 c2 c3 c4 c5
 go_wp2_with (first | (go_at_call 17; refine (HLEN.out _ HB1.out).mono ?_; rintro e wx ⟨rfl, rfl⟩) | (go_at_call 18; refine (HLAY.out _).mono ?_; rintro e wx ⟨rfl, rfl⟩))
 refine wp_region_held_drew (S := fun X => Below w.heap.size w X) (by kernel_rfl) HB1.out.drew (fun hHeld => ?_)
 refine wpAnyH_take (i := 0) (oi := { dst := some 28, op := Op.move (Operand.tmp 0), type := 29, pos := "store.go:84", after := #[], guard := none }) (v := ?_) rfl (by kernel_rfl) (by kernel_rfl) (by kernel_rfl) (fun _ _ _ h => h) (Or.inl ⟨by rfl, ?_⟩) (by assumption) ?_
 rotate_left
 ·intro X hSw; go_simp; try (with_reducible rfl)
 try simp only [Act.put, List.setIfInBounds_toArray, List.set_cons_zero, List.set_cons_succ]
 refine wpAnyH_take (i := 1) (oi := { dst := some 29, op := Op.nilCheck (Operand.tmp 28), type := 0, pos := "store.go:84", after := #[{ on := 0, ground := Ground.data }], guard := none }) (v := ?_) rfl (by kernel_rfl) (by kernel_rfl) (by kernel_rfl) (fun _ _ _ h => h) (Or.inl ⟨by rfl, ?_⟩) (by assumption) ?_
 rotate_left
 ·intro X hSw; go_simp; try (with_reducible rfl)
 try simp only [Act.put, List.setIfInBounds_toArray, List.set_cons_zero, List.set_cons_succ]
 refine wpAnyH_take (i := 2) (oi := { dst := some 30, op := Op.fieldAddr 75 (Operand.tmp 29) 2, type := 0, pos := "store.go:84", after := #[{ on := 1, ground := Ground.data }], guard := none }) (v := ?_) rfl (by kernel_rfl) (by kernel_rfl) (by kernel_rfl) (fun _ _ _ h => h) (Or.inl ⟨by rfl, ?_⟩) (by assumption) ?_
 rotate_left
 ·intro X hSw; go_simp; try (with_reducible rfl)
 try simp only [Act.put, List.setIfInBounds_toArray, List.set_cons_zero, List.set_cons_succ]
 refine wpAnyH_take (i := 3) (oi := { dst := some 31, op := Op.load 3 (Operand.tmp 30), type := 3, pos := "store.go:84", after := #[{ on := 2, ground := Ground.data }], guard := none }) (v := ?_) rfl (by kernel_rfl) (by kernel_rfl) (by kernel_rfl) (fun _ _ _ h => h) (Or.inl ⟨by rfl, ?_⟩) (by assumption) ?_
 rotate_left
 ·intro X hSw; have zb := HCE.out _ hSw; have z2 := zb.cell 2; have z5 := zb.cell 5; unfold sc at z2 z5; simp at z2 z5; go_simp; try (with_reducible rfl)
 try simp only [Act.put, List.setIfInBounds_toArray, List.set_cons_zero, List.set_cons_succ]
 refine wpAnyH_take (i := 4) (oi := { dst := some 32, op := Op.move (Operand.tmp 0), type := 29, pos := "store.go:84", after := #[], guard := none }) (v := ?_) rfl (by kernel_rfl) (by kernel_rfl) (by kernel_rfl) (fun _ _ _ h => h) (Or.inl ⟨by rfl, ?_⟩) (by assumption) ?_
 rotate_left
 ·intro X hSw; go_simp; try (with_reducible rfl)
 try simp only [Act.put, List.setIfInBounds_toArray, List.set_cons_zero, List.set_cons_succ]
 refine wpAnyH_take (i := 5) (oi := { dst := some 33, op := Op.nilCheck (Operand.tmp 32), type := 0, pos := "store.go:84", after := #[{ on := 4, ground := Ground.data }], guard := none }) (v := ?_) rfl (by kernel_rfl) (by kernel_rfl) (by kernel_rfl) (fun _ _ _ h => h) (Or.inl ⟨by rfl, ?_⟩) (by assumption) ?_
 rotate_left
 ·intro X hSw; go_simp; try (with_reducible rfl)
 try simp only [Act.put, List.setIfInBounds_toArray, List.set_cons_zero, List.set_cons_succ]
 refine wpAnyH_take (i := 6) (oi := { dst := some 34, op := Op.fieldAddr 75 (Operand.tmp 33) 5, type := 0, pos := "store.go:84", after := #[{ on := 5, ground := Ground.data }], guard := none }) (v := ?_) rfl (by kernel_rfl) (by kernel_rfl) (by kernel_rfl) (fun _ _ _ h => h) (Or.inl ⟨by rfl, ?_⟩) (by assumption) ?_
 rotate_left
 ·intro X hSw; go_simp; try (with_reducible rfl)
 try simp only [Act.put, List.setIfInBounds_toArray, List.set_cons_zero, List.set_cons_succ]
 refine wpAnyH_take (i := 7) (oi := { dst := some 35, op := Op.load 3 (Operand.tmp 34), type := 3, pos := "store.go:84", after := #[{ on := 6, ground := Ground.data }], guard := none }) (v := ?_) rfl (by kernel_rfl) (by kernel_rfl) (by kernel_rfl) (fun _ _ _ h => h) (Or.inl ⟨by rfl, ?_⟩) (by assumption) ?_
 rotate_left
 ·intro X hSw; have zb := HCE.out _ hSw; have z2 := zb.cell 2; have z5 := zb.cell 5; unfold sc at z2 z5; simp at z2 z5; go_simp; try (with_reducible rfl)
 try simp only [Act.put, List.setIfInBounds_toArray, List.set_cons_zero, List.set_cons_succ]
 refine wpAnyH_take (i := 8) (oi := { dst := some 36, op := Op.move (Operand.tmp 1), type := 34, pos := "store.go:84", after := #[], guard := none }) (v := ?_) rfl (by kernel_rfl) (by kernel_rfl) (by kernel_rfl) (fun _ _ _ h => h) (Or.inl ⟨by rfl, ?_⟩) (by assumption) ?_
 rotate_left
 ·intro X hSw; go_simp; try (with_reducible rfl)
 try simp only [Act.put, List.setIfInBounds_toArray, List.set_cons_zero, List.set_cons_succ]
 refine wpAnyH_ready (rs := [9]) (by kernel_rfl) (by simp) ?_
 refine AllReadyH.cons (o := { dst := some 37, op := Op.call { callee := Callee.value (Operand.func 10), args := #[Operand.tmp 31, Operand.tmp 35, Operand.tmp 36], argTypes := #[3, 3, 34] }, type := 36, pos := "store.go:84", after := #[{ on := 3, ground := Ground.data }, { on := 7, ground := Ground.data }, { on := 8, ground := Ground.data }], guard := none }) rfl (fun K hK => ?_) AllReadyH.nil
 go_simp
 refine (HPA.out _ (Fr.of_below hHeld)).mono ?_
 rintro e w2 ⟨pv, rfl, hop, hb2⟩
 obtain ⟨Ap, cp, hpv, hpc1, hpc2⟩ := hop.shape
 subst hpv
 have HOP := Lib.hid hop
 have HB2 := Lib.hid (hHeld.trans (hb2.mono hHeld.size))
 have HSZ := Lib.hid (show w.heap.size ≤ w1.drew.heap.size from hHeld.size)
 clear hop hb2
 try (go_wp2_with fail)
 have hHeld' := HB2.out
 refine hK.out _ _ ?_ (fun _ => ?_)
 ·exact hHeld'
 clear hK K hHeld
 have hHeld := hHeld'
 clear hHeld'
 try simp only [Act.put, List.setIfInBounds_toArray, List.set_cons_zero, List.set_cons_succ]
 refine wpAnyH_take (i := 10) (oi := { dst := some 27, op := Op.move (Operand.tmp 37), type := 36, pos := "store.go:84", after := #[{ on := 9, ground := Ground.data }], guard := none }) (v := ?_) rfl (by kernel_rfl) (by kernel_rfl) (by kernel_rfl) (fun _ _ _ h => h) (Or.inl ⟨by rfl, ?_⟩) (by assumption) ?_
 rotate_left
 ·intro X hSw; go_simp; try (with_reducible rfl)
 try simp only [Act.put, List.setIfInBounds_toArray, List.set_cons_zero, List.set_cons_succ]
 refine wpAnyH_take (i := 11) (oi := { dst := some 38, op := Op.extract (Operand.tmp 27) 0, type := 35, pos := "store.go:84", after := #[{ on := 10, ground := Ground.data }], guard := none }) (v := ?_) rfl (by kernel_rfl) (by kernel_rfl) (by kernel_rfl) (fun _ _ _ h => h) (Or.inl ⟨by rfl, ?_⟩) (by assumption) ?_
 rotate_left
 ·intro X hSw; go_simp; try (with_reducible rfl)
 try simp only [Act.put, List.setIfInBounds_toArray, List.set_cons_zero, List.set_cons_succ]
 refine wpAnyH_take (i := 12) (oi := { dst := some 39, op := Op.extract (Operand.tmp 27) 1, type := 4, pos := "store.go:84", after := #[{ on := 10, ground := Ground.data }, { on := 13, ground := Ground.gcOnly Departure.lateStores }], guard := none }) (v := ?_) rfl (by kernel_rfl) (by kernel_rfl) (by kernel_rfl) (fun _ _ _ h => h) (Or.inl ⟨by rfl, ?_⟩) (by assumption) ?_
 rotate_left
 ·intro X hSw; go_simp; try (with_reducible rfl)
 try simp only [Act.put, List.setIfInBounds_toArray, List.set_cons_zero, List.set_cons_succ]
 refine wpAnyH_take (i := 13) (oi := { dst := some 7, op := Op.assign (Operand.tmp 38), type := 35, pos := "store.go:84", after := #[{ on := 11, ground := Ground.data }, { on := 9, ground := Ground.chain }, { on := 0, ground := Ground.phase }, { on := 1, ground := Ground.phase }, { on := 2, ground := Ground.phase }, { on := 3, ground := Ground.phase }, { on := 4, ground := Ground.phase }, { on := 5, ground := Ground.phase }, { on := 6, ground := Ground.phase }, { on := 7, ground := Ground.phase }, { on := 8, ground := Ground.phase }, { on := 9, ground := Ground.phase }, { on := 10, ground := Ground.phase }, { on := 11, ground := Ground.phase }, { on := 12, ground := Ground.textOnly Departure.lateStores }], guard := none }) (v := ?_) rfl (by kernel_rfl) (by kernel_rfl) (by kernel_rfl) (fun _ _ _ h => h) (Or.inl ⟨by rfl, ?_⟩) (by assumption) ?_
 rotate_left
 ·intro X hSw; go_simp; try (with_reducible rfl)
 try simp only [Act.put, List.setIfInBounds_toArray, List.set_cons_zero, List.set_cons_succ]
 refine wpAnyH_take (i := 14) (oi := { dst := some 8, op := Op.assign (Operand.tmp 39), type := 4, pos := "store.go:84", after := #[{ on := 12, ground := Ground.data }, { on := 13, ground := Ground.chain }, { on := 0, ground := Ground.phase }, { on := 1, ground := Ground.phase }, { on := 2, ground := Ground.phase }, { on := 3, ground := Ground.phase }, { on := 4, ground := Ground.phase }, { on := 5, ground := Ground.phase }, { on := 6, ground := Ground.phase }, { on := 7, ground := Ground.phase }, { on := 8, ground := Ground.phase }, { on := 9, ground := Ground.phase }, { on := 10, ground := Ground.phase }, { on := 11, ground := Ground.phase }, { on := 12, ground := Ground.phase }, { on := 13, ground := Ground.phase }], guard := none }) (v := ?_) rfl (by kernel_rfl) (by kernel_rfl) (by kernel_rfl) (fun _ _ _ h => h) (Or.inl ⟨by rfl, ?_⟩) (by assumption) ?_
 rotate_left
 ·intro X hSw; go_simp; try (with_reducible rfl)
 try simp only [Act.put, List.setIfInBounds_toArray, List.set_cons_zero, List.set_cons_succ]
 refine wpAnyH_done (by kernel_rfl) ?_ _
 clear hHeld c0 c1 c2 c3 c4 c5
 have d0 := (HCE.out _ HB2.out).cell 0
 have d1 := (HCE.out _ HB2.out).cell 1
 have d4 := (HCE.out _ HB2.out).cell 4
 unfold sc at d0 d1 d4
 simp at d0 d1 d4
 have hap := apply_any (.slice Ar x.rows.length cr) (.slice A cs.length c) x.rows cs w2 (H.out.rows.keep HB2.out.size (fun k hr => HB2.out.block k (H.out.hR k hr).2.2)).rr (rows_few_ HG.out).1 (HC.out _ (Fr.of_below HB2.out)) (by have := (rows_few_ HG.out).2; omega) (fun r hr => Nat.le_trans (rows_val HG.out r hr) (by decide)) (fun r hr => Nat.le_trans (hcv r hr) (by decide))
 rw [← HRO.out] at hap
 have HAP := Lib.hid hap
 clear hap
 go_wp2_with fail
 go_at_call 27
 refine HAP.out.mono ?_
 rintro e w3 ⟨rv3, rfl, hor3, hb3⟩
 have HB3 := Lib.hid (HB2.out.trans (hb3.mono HB2.out.size))
 have HOR := Lib.hid hor3
 have HB23 := Lib.hid hb3
 have hs23 : w2.heap.size ≤ w3.heap.size := hb3.size
 obtain ⟨A3, c3, hrv3, hrc31, hrc32⟩ := rr_shape hor3.rr
 subst hrv3
 clear hor3 hb3 d0 d1 d4
 have g0 := (HCE.out _ HB3.out).cell 0
 have g4 := (HCE.out _ HB3.out).cell 4
 unfold sc at g0 g4
 simp at g0 g4
 have HFT := Lib.hid (sfit_any (H.out.dev.below HB3.out) _ _ HOR.out.rr)
 rw [← HNN.out] at HFT
 go_wp2_with fail
 go_at_call 29
 refine HFT.out.mono ?_
 rintro e w4 ⟨rfl, hb4⟩
 have HB4 := Lib.hid (HB3.out.trans (hb4.mono HB3.out.size))
 have HB34 := Lib.hid hb4
 clear hb4 g0 g4
 have k4 := (HCE.out _ HB4.out).cell 4
 have k0 := (HCE.out _ HB4.out).cell 0
 unfold sc at k4 k0
 simp at k4 k0
 rw [HF2.out]
 have HCK := Lib.hid (ck_over (show Sto dg M w4 (.pointer (some ⟨g, 0, none⟩)) x from ⟨D, R, g, .slice Ar x.rows.length cr, rfl, H.out.below HB4.out⟩) HOV.out)
 go_wp2_with fail
 go_at_call 15
 refine HCK.out.mono ?_
 rintro e w5 ⟨rfl, rfl⟩
 go_wp2
 go_ret
 exact ⟨rfl, HB4.out⟩
set_option maxRecDepth 100000 in
set_option maxHeartbeats 600000 in
theorem commit_ck {dg : Nat} {M : Nat → Prop} {w : World} {sv lv : Value} {x : Ss} {cs : List Chg} (h : Sto dg M w sv x) (hG : GoodX x) (hc : CO M w lv cs) (hne : cs ≠ []) (hl : cs.any longC = false) (hcb : (chgsB cs).length ≤ 100000000) (hcs : cs.length ≤ 100000) (hcv : ∀ r ∈ cs, r.2.1.length ≤ 1000000000) (hp : (partsL (x.ep : Int) (x.fr : Int) cs).2 = true) (hp1 : (partsL (x.ep : Int) (x.fr : Int) cs).1.length ≤ jN x.n) (hft : fitB x.n (applyL x.rows cs) = true) (hroom : jN x.n < x.us + (partsL (x.ep : Int) (x.fr : Int) cs).1.length) (hov : x.ep < 1073741824) : Calls Try.prog 12 #[sv, lv] w fun e w' => e = .returned (.int .u16 0) ∧ SDid dg M w sv (putS (ckS x) cs) w' := by
 obtain ⟨D, R, g, rv, rfl, h⟩ := h
 have HC := Lib.hid hc
 obtain ⟨A, c, rfl, hcc, hcm, _⟩ := hc.rc
 unfold maxLen at hcm
 have hcl : (0 : Int) < (cs.length : Int) := by have := List.length_pos_iff.2 hne; omega
 have hcl2 : ((cs.length : Int) == 0) = false := by rw [beq_eq_false_iff_ne]; omega
 have hcl3 : ¬ (cs.length : Int) = 0 := by omega
 have H := Lib.hid h
 have HL := Lib.hid (anyLong_any (.slice A cs.length c) cs w hc.rc)
 rw [hl] at HL
 obtain ⟨⟨P1, P2⟩, hPL⟩ : ∃ PL, PL = partsL (x.ep : Int) (x.fr : Int) cs := ⟨_, rfl⟩
 obtain ⟨J, hJ⟩ : ∃ J, J = jN x.n := ⟨_, rfl⟩
 obtain ⟨n, hn⟩ : ∃ n, n = x.d.firm.length := ⟨_, rfl⟩
 have hn64 : 64 ≤ n := by rw [hn]; exact hG.n
 have hn4 : n ≤ 4096 := by rw [hn]; exact hG.ok.n
 have hJn : J ≤ n := by rw [hJ, hn]; exact Nat.le_trans (jN_le x.d.firm.length) (Nat.div_le_self _ _)
 have hus : x.us ≤ J := by rw [hJ]; exact hG.us
 have hfr : x.fr ≤ J := Nat.le_trans hG.fr hus
 have hep := hG.ep
 have har := hG.ar
 have hlen := fun X (hX : Below w.heap.size w X) => len_any (h.dev.below hX)
 rw [← hn] at hlen
 have hlay := fun X => layout_any (n : Int) (by omega) (by omega) X
 rw [layJ_nat, layA_nat, hn, ← hJ, ← hn] at hlay
 have HLEN := Lib.hid hlen
 have HLAY := Lib.hid hlay
 have hpa := fun X (hX : Fr M w X) => parts_any (x.ep : Int) (x.fr : Int) _ cs X (hc X hX) hcb (by omega) (fun r hr => hcv r hr)
 rw [← hPL] at hpa
 have HPA := Lib.hid hpa
 have hcells := fun X (hX : Below w.heap.size w X) => h.blk.below hX h.blk.lt
 have HCE := Lib.hid hcells
 have HPL := Lib.hid hPL
 have HJ := Lib.hid hJ
 have HNN := Lib.hid hn
 have HG := Lib.hid hG
 obtain ⟨Ar, cr, hrv, hrc1, hrc2⟩ := rr_shape h.rows.rr
 subst hrv
 obtain ⟨RO', hRO⟩ : ∃ r, r = applyL x.rows cs := ⟨_, rfl⟩
 have HRO := Lib.hid hRO
 obtain ⟨FB_, hFB⟩ : ∃ b, b = fitB n (applyL x.rows cs) := ⟨_, rfl⟩
 have HFB := Lib.hid hFB
 rw [← hPL, ← hJ] at hroom
 simp only at hroom
 rw [← hPL] at hp
 rw [← hPL, ← hJ] at hp1
 simp only at hp hp1
 subst hp
 have hft2 : fitB n RO' = true := by rw [hRO, hn]; exact hft
 have hp1' : ¬ (J : Int) < (P1.length : Int) := by omega
 have HF2 := Lib.hid hft2
 have hroom' : (J : Int) < (x.us : Int) + (P1.length : Int) := by omega
 obtain ⟨y, hy⟩ : ∃ y, y = ckS x := ⟨_, rfl⟩
 have hyu : y.us ≤ 5000 := by rw [hy]; exact Nat.zero_le _
 have hyf : y.fr ≤ 5000 := by rw [hy]; exact Nat.zero_le _
 have hye : y.ep ≤ 1073741824 := by rw [hy]; show x.ep + 1 ≤ _; omega
 have hylo : y.d.loose.length ≤ 20000 := by
  rw [hy]
  obtain ⟨ps, hps, hpl⟩ := hG.fit
  show (layS x.d (x.ep + 1) (1 - x.ar) ((buildL x.rows).getD [])).loose.length ≤ _
  rw [hps]
  have h1 := layS_loose x.d (x.ep + 1) (1 - x.ar) ps (built_256 hps)
  have h2 := aN_le x.d.firm.length
  have h3 := hG.lo
  have h4 : ps.length ≤ aN x.d.firm.length := hpl
  have h5 : x.d.firm.length ≤ 4096 := hG.ok.n
  show (layS x.d (x.ep + 1) (1 - x.ar) ps).loose.length ≤ _
  omega
 obtain ⟨⟨P3, P4⟩, hP3⟩ : ∃ PL, PL = partsL (y.ep : Int) (y.fr : Int) cs := ⟨_, rfl⟩
 have hP3l : P3.length ≤ 200 := by have := parts_len (y.ep : Int) (y.fr : Int) cs; rw [← hP3] at this; exact this
 have hpa2 := fun X (hX : RC X (.slice A cs.length c) cs) => parts_any (y.ep : Int) (y.fr : Int) _ cs X hX hcb (by omega) (fun r hr => hcv r hr)
 rw [← hP3] at hpa2
 have HPA2 := Lib.hid hpa2
 have HY := Lib.hid hy
 have HP3 := Lib.hid hP3
 have hck := fun X (hX : Sto dg M X (.pointer (some ⟨g, 0, none⟩)) x) => ck_any hX hG hov
 rw [← hy] at hck
 have HCK := Lib.hid hck
 clear h hc hG hPL hJ hn hlen hlay hpa hcells hcb hRO hFB hft hft2 hy hP3 hpa2 hck
 go_enter Try.func12, Try.ntmps12
 go_wp2_with fail
 go_at_call 34
 refine HL.out.mono ?_
 rintro e w1 ⟨rfl, hb1⟩
 have HB1 := Lib.hid hb1
 clear hb1
 have c0 := (HCE.out _ HB1.out).cell 0
 have c1 := (HCE.out _ HB1.out).cell 1
 have c2 := (HCE.out _ HB1.out).cell 2
 have c3 := (HCE.out _ HB1.out).cell 3
 have c4 := (HCE.out _ HB1.out).cell 4
 have c5 := (HCE.out _ HB1.out).cell 5
 unfold sc at c0 c1 c2 c3 c4 c5
 simp at c0 c1 c2 c3 c4 c5
 go_wp2_with (first | (go_at_call 17; refine (HLEN.out _ HB1.out).mono ?_; rintro e wx ⟨rfl, rfl⟩) | (go_at_call 18; refine (HLAY.out _).mono ?_; rintro e wx ⟨rfl, rfl⟩))
 refine wp_region_held_drew (S := fun X => Below w.heap.size w X) (by kernel_rfl) HB1.out.drew (fun hHeld => ?_)
 refine wpAnyH_take (i := 0) (oi := { dst := some 28, op := Op.move (Operand.tmp 0), type := 29, pos := "store.go:84", after := #[], guard := none }) (v := ?_) rfl (by kernel_rfl) (by kernel_rfl) (by kernel_rfl) (fun _ _ _ h => h) (Or.inl ⟨by rfl, ?_⟩) (by assumption) ?_
 rotate_left
 ·intro X hSw; go_simp; try (with_reducible rfl)
 try simp only [Act.put, List.setIfInBounds_toArray, List.set_cons_zero, List.set_cons_succ]
 refine wpAnyH_take (i := 1) (oi := { dst := some 29, op := Op.nilCheck (Operand.tmp 28), type := 0, pos := "store.go:84", after := #[{ on := 0, ground := Ground.data }], guard := none }) (v := ?_) rfl (by kernel_rfl) (by kernel_rfl) (by kernel_rfl) (fun _ _ _ h => h) (Or.inl ⟨by rfl, ?_⟩) (by assumption) ?_
 rotate_left
 ·intro X hSw; go_simp; try (with_reducible rfl)
 try simp only [Act.put, List.setIfInBounds_toArray, List.set_cons_zero, List.set_cons_succ]
 refine wpAnyH_take (i := 2) (oi := { dst := some 30, op := Op.fieldAddr 75 (Operand.tmp 29) 2, type := 0, pos := "store.go:84", after := #[{ on := 1, ground := Ground.data }], guard := none }) (v := ?_) rfl (by kernel_rfl) (by kernel_rfl) (by kernel_rfl) (fun _ _ _ h => h) (Or.inl ⟨by rfl, ?_⟩) (by assumption) ?_
 rotate_left
 ·intro X hSw; go_simp; try (with_reducible rfl)
 try simp only [Act.put, List.setIfInBounds_toArray, List.set_cons_zero, List.set_cons_succ]
 refine wpAnyH_take (i := 3) (oi := { dst := some 31, op := Op.load 3 (Operand.tmp 30), type := 3, pos := "store.go:84", after := #[{ on := 2, ground := Ground.data }], guard := none }) (v := ?_) rfl (by kernel_rfl) (by kernel_rfl) (by kernel_rfl) (fun _ _ _ h => h) (Or.inl ⟨by rfl, ?_⟩) (by assumption) ?_
 rotate_left
 ·intro X hSw; have zb := HCE.out _ hSw; have z2 := zb.cell 2; have z5 := zb.cell 5; unfold sc at z2 z5; simp at z2 z5; go_simp; try (with_reducible rfl)
 try simp only [Act.put, List.setIfInBounds_toArray, List.set_cons_zero, List.set_cons_succ]
 refine wpAnyH_take (i := 4) (oi := { dst := some 32, op := Op.move (Operand.tmp 0), type := 29, pos := "store.go:84", after := #[], guard := none }) (v := ?_) rfl (by kernel_rfl) (by kernel_rfl) (by kernel_rfl) (fun _ _ _ h => h) (Or.inl ⟨by rfl, ?_⟩) (by assumption) ?_
 rotate_left
 ·intro X hSw; go_simp; try (with_reducible rfl)
 try simp only [Act.put, List.setIfInBounds_toArray, List.set_cons_zero, List.set_cons_succ]
 refine wpAnyH_take (i := 5) (oi := { dst := some 33, op := Op.nilCheck (Operand.tmp 32), type := 0, pos := "store.go:84", after := #[{ on := 4, ground := Ground.data }], guard := none }) (v := ?_) rfl (by kernel_rfl) (by kernel_rfl) (by kernel_rfl) (fun _ _ _ h => h) (Or.inl ⟨by rfl, ?_⟩) (by assumption) ?_
 rotate_left
 ·intro X hSw; go_simp; try (with_reducible rfl)
 try simp only [Act.put, List.setIfInBounds_toArray, List.set_cons_zero, List.set_cons_succ]
 refine wpAnyH_take (i := 6) (oi := { dst := some 34, op := Op.fieldAddr 75 (Operand.tmp 33) 5, type := 0, pos := "store.go:84", after := #[{ on := 5, ground := Ground.data }], guard := none }) (v := ?_) rfl (by kernel_rfl) (by kernel_rfl) (by kernel_rfl) (fun _ _ _ h => h) (Or.inl ⟨by rfl, ?_⟩) (by assumption) ?_
 rotate_left
 ·intro X hSw; go_simp; try (with_reducible rfl)
 try simp only [Act.put, List.setIfInBounds_toArray, List.set_cons_zero, List.set_cons_succ]
 refine wpAnyH_take (i := 7) (oi := { dst := some 35, op := Op.load 3 (Operand.tmp 34), type := 3, pos := "store.go:84", after := #[{ on := 6, ground := Ground.data }], guard := none }) (v := ?_) rfl (by kernel_rfl) (by kernel_rfl) (by kernel_rfl) (fun _ _ _ h => h) (Or.inl ⟨by rfl, ?_⟩) (by assumption) ?_
 rotate_left
 ·intro X hSw; have zb := HCE.out _ hSw; have z2 := zb.cell 2; have z5 := zb.cell 5; unfold sc at z2 z5; simp at z2 z5; go_simp; try (with_reducible rfl)
 try simp only [Act.put, List.setIfInBounds_toArray, List.set_cons_zero, List.set_cons_succ]
 refine wpAnyH_take (i := 8) (oi := { dst := some 36, op := Op.move (Operand.tmp 1), type := 34, pos := "store.go:84", after := #[], guard := none }) (v := ?_) rfl (by kernel_rfl) (by kernel_rfl) (by kernel_rfl) (fun _ _ _ h => h) (Or.inl ⟨by rfl, ?_⟩) (by assumption) ?_
 rotate_left
 ·intro X hSw; go_simp; try (with_reducible rfl)
 try simp only [Act.put, List.setIfInBounds_toArray, List.set_cons_zero, List.set_cons_succ]
 refine wpAnyH_ready (rs := [9]) (by kernel_rfl) (by simp) ?_
 refine AllReadyH.cons (o := { dst := some 37, op := Op.call { callee := Callee.value (Operand.func 10), args := #[Operand.tmp 31, Operand.tmp 35, Operand.tmp 36], argTypes := #[3, 3, 34] }, type := 36, pos := "store.go:84", after := #[{ on := 3, ground := Ground.data }, { on := 7, ground := Ground.data }, { on := 8, ground := Ground.data }], guard := none }) rfl (fun K hK => ?_) AllReadyH.nil
 go_simp
 refine (HPA.out _ (Fr.of_below hHeld)).mono ?_
 rintro e w2 ⟨pv, rfl, hop, hb2⟩
 obtain ⟨Ap, cp, hpv, hpc1, hpc2⟩ := hop.shape
 subst hpv
 have HOP := Lib.hid hop
 have HB2 := Lib.hid (hHeld.trans (hb2.mono hHeld.size))
 have HSZ := Lib.hid (show w.heap.size ≤ w1.drew.heap.size from hHeld.size)
 clear hop hb2
 try (go_wp2_with fail)
 have hHeld' := HB2.out
 refine hK.out _ _ ?_ (fun _ => ?_)
 ·exact hHeld'
 clear hK K hHeld
 have hHeld := hHeld'
 clear hHeld'
 try simp only [Act.put, List.setIfInBounds_toArray, List.set_cons_zero, List.set_cons_succ]
 refine wpAnyH_take (i := 10) (oi := { dst := some 27, op := Op.move (Operand.tmp 37), type := 36, pos := "store.go:84", after := #[{ on := 9, ground := Ground.data }], guard := none }) (v := ?_) rfl (by kernel_rfl) (by kernel_rfl) (by kernel_rfl) (fun _ _ _ h => h) (Or.inl ⟨by rfl, ?_⟩) (by assumption) ?_
 rotate_left
 ·intro X hSw; go_simp; try (with_reducible rfl)
 try simp only [Act.put, List.setIfInBounds_toArray, List.set_cons_zero, List.set_cons_succ]
 refine wpAnyH_take (i := 11) (oi := { dst := some 38, op := Op.extract (Operand.tmp 27) 0, type := 35, pos := "store.go:84", after := #[{ on := 10, ground := Ground.data }], guard := none }) (v := ?_) rfl (by kernel_rfl) (by kernel_rfl) (by kernel_rfl) (fun _ _ _ h => h) (Or.inl ⟨by rfl, ?_⟩) (by assumption) ?_
 rotate_left
 ·intro X hSw; go_simp; try (with_reducible rfl)
 try simp only [Act.put, List.setIfInBounds_toArray, List.set_cons_zero, List.set_cons_succ]
 refine wpAnyH_take (i := 12) (oi := { dst := some 39, op := Op.extract (Operand.tmp 27) 1, type := 4, pos := "store.go:84", after := #[{ on := 10, ground := Ground.data }, { on := 13, ground := Ground.gcOnly Departure.lateStores }], guard := none }) (v := ?_) rfl (by kernel_rfl) (by kernel_rfl) (by kernel_rfl) (fun _ _ _ h => h) (Or.inl ⟨by rfl, ?_⟩) (by assumption) ?_
 rotate_left
 ·intro X hSw; go_simp; try (with_reducible rfl)
 try simp only [Act.put, List.setIfInBounds_toArray, List.set_cons_zero, List.set_cons_succ]
 refine wpAnyH_take (i := 13) (oi := { dst := some 7, op := Op.assign (Operand.tmp 38), type := 35, pos := "store.go:84", after := #[{ on := 11, ground := Ground.data }, { on := 9, ground := Ground.chain }, { on := 0, ground := Ground.phase }, { on := 1, ground := Ground.phase }, { on := 2, ground := Ground.phase }, { on := 3, ground := Ground.phase }, { on := 4, ground := Ground.phase }, { on := 5, ground := Ground.phase }, { on := 6, ground := Ground.phase }, { on := 7, ground := Ground.phase }, { on := 8, ground := Ground.phase }, { on := 9, ground := Ground.phase }, { on := 10, ground := Ground.phase }, { on := 11, ground := Ground.phase }, { on := 12, ground := Ground.textOnly Departure.lateStores }], guard := none }) (v := ?_) rfl (by kernel_rfl) (by kernel_rfl) (by kernel_rfl) (fun _ _ _ h => h) (Or.inl ⟨by rfl, ?_⟩) (by assumption) ?_
 rotate_left
 ·intro X hSw; go_simp; try (with_reducible rfl)
 try simp only [Act.put, List.setIfInBounds_toArray, List.set_cons_zero, List.set_cons_succ]
 refine wpAnyH_take (i := 14) (oi := { dst := some 8, op := Op.assign (Operand.tmp 39), type := 4, pos := "store.go:84", after := #[{ on := 12, ground := Ground.data }, { on := 13, ground := Ground.chain }, { on := 0, ground := Ground.phase }, { on := 1, ground := Ground.phase }, { on := 2, ground := Ground.phase }, { on := 3, ground := Ground.phase }, { on := 4, ground := Ground.phase }, { on := 5, ground := Ground.phase }, { on := 6, ground := Ground.phase }, { on := 7, ground := Ground.phase }, { on := 8, ground := Ground.phase }, { on := 9, ground := Ground.phase }, { on := 10, ground := Ground.phase }, { on := 11, ground := Ground.phase }, { on := 12, ground := Ground.phase }, { on := 13, ground := Ground.phase }], guard := none }) (v := ?_) rfl (by kernel_rfl) (by kernel_rfl) (by kernel_rfl) (fun _ _ _ h => h) (Or.inl ⟨by rfl, ?_⟩) (by assumption) ?_
 rotate_left
 ·intro X hSw; go_simp; try (with_reducible rfl)
 try simp only [Act.put, List.setIfInBounds_toArray, List.set_cons_zero, List.set_cons_succ]
 refine wpAnyH_done (by kernel_rfl) ?_ _
 clear hHeld c0 c1 c2 c3 c4 c5
 have d0 := (HCE.out _ HB2.out).cell 0
 have d1 := (HCE.out _ HB2.out).cell 1
 have d4 := (HCE.out _ HB2.out).cell 4
 unfold sc at d0 d1 d4
 simp at d0 d1 d4
 have hap := apply_any (.slice Ar x.rows.length cr) (.slice A cs.length c) x.rows cs w2 (H.out.rows.keep HB2.out.size (fun k hr => HB2.out.block k (H.out.hR k hr).2.2)).rr (rows_few_ HG.out).1 (HC.out _ (Fr.of_below HB2.out)) (by have := (rows_few_ HG.out).2; omega) (fun r hr => Nat.le_trans (rows_val HG.out r hr) (by decide)) (fun r hr => Nat.le_trans (hcv r hr) (by decide))
 rw [← HRO.out] at hap
 have HAP := Lib.hid hap
 clear hap
 go_wp2_with fail
 go_at_call 27
 refine HAP.out.mono ?_
 rintro e w3 ⟨rv3, rfl, hor3, hb3⟩
 have HB3 := Lib.hid (HB2.out.trans (hb3.mono HB2.out.size))
 have HOR := Lib.hid hor3
 have HB23 := Lib.hid hb3
 have hs23 : w2.heap.size ≤ w3.heap.size := hb3.size
 obtain ⟨A3, c3, hrv3, hrc31, hrc32⟩ := rr_shape hor3.rr
 subst hrv3
 clear hor3 hb3 d0 d1 d4
 have g0 := (HCE.out _ HB3.out).cell 0
 have g4 := (HCE.out _ HB3.out).cell 4
 unfold sc at g0 g4
 simp at g0 g4
 have HFT := Lib.hid (sfit_any (H.out.dev.below HB3.out) _ _ HOR.out.rr)
 rw [← HNN.out] at HFT
 go_wp2_with fail
 go_at_call 29
 refine HFT.out.mono ?_
 rintro e w4 ⟨rfl, hb4⟩
 have HB4 := Lib.hid (HB3.out.trans (hb4.mono HB3.out.size))
 have HB34 := Lib.hid hb4
 clear hb4 g0 g4
 have k4 := (HCE.out _ HB4.out).cell 4
 have k0 := (HCE.out _ HB4.out).cell 0
 unfold sc at k4 k0
 simp at k4 k0
 rw [HF2.out]
 have HSK := Lib.hid (HCK.out w4 (show Sto dg M w4 (.pointer (some ⟨g, 0, none⟩)) x from ⟨D, R, g, .slice Ar x.rows.length cr, rfl, H.out.below HB4.out⟩))
 go_wp2_with fail
 go_at_call 15
 refine HSK.out.mono ?_
 rintro e w5 ⟨rfl, M', ⟨D', R', g', rv', hg', hT5⟩, hF5, hk5⟩
 obtain rfl : g = g' := by injection hg' with hg'; injection hg' with hg'; injection hg'
 have HT5 := Lib.hid hT5
 have HF45 := Lib.hid hF5
 have HK5 := Lib.hid hk5
 have HFM5 := Lib.hid ((Fr.of_below (D := M) HB4.out).trans hF5 (fun k hk => .inl hk))
 clear hT5 hF5 hk5 hg' k4 k0
 go_wp2_with fail
 go_wp2
 refine wp_region_held_drew (S := fun X => Below w5.heap.size w5 X) (by kernel_rfl) (Below.refl _ _).drew (fun hHeld => ?_)
 refine wpAnyH_take (i := 0) (oi := { dst := some 76, op := Op.move (Operand.tmp 0), type := 29, pos := "store.go:96", after := #[], guard := none }) (v := ?_) rfl (by kernel_rfl) (by kernel_rfl) (by kernel_rfl) (fun _ _ _ h => h) (Or.inl ⟨by rfl, ?_⟩) (by assumption) ?_
 rotate_left
 ·intro X hSw; go_simp; try (with_reducible rfl)
 try simp only [Act.put, List.setIfInBounds_toArray, List.set_cons_zero, List.set_cons_succ]
 refine wpAnyH_take (i := 1) (oi := { dst := some 77, op := Op.nilCheck (Operand.tmp 76), type := 0, pos := "store.go:96", after := #[{ on := 0, ground := Ground.data }], guard := none }) (v := ?_) rfl (by kernel_rfl) (by kernel_rfl) (by kernel_rfl) (fun _ _ _ h => h) (Or.inl ⟨by rfl, ?_⟩) (by assumption) ?_
 rotate_left
 ·intro X hSw; go_simp; try (with_reducible rfl)
 try simp only [Act.put, List.setIfInBounds_toArray, List.set_cons_zero, List.set_cons_succ]
 refine wpAnyH_take (i := 2) (oi := { dst := some 78, op := Op.fieldAddr 75 (Operand.tmp 77) 2, type := 0, pos := "store.go:96", after := #[{ on := 1, ground := Ground.data }], guard := none }) (v := ?_) rfl (by kernel_rfl) (by kernel_rfl) (by kernel_rfl) (fun _ _ _ h => h) (Or.inl ⟨by rfl, ?_⟩) (by assumption) ?_
 rotate_left
 ·intro X hSw; go_simp; try (with_reducible rfl)
 try simp only [Act.put, List.setIfInBounds_toArray, List.set_cons_zero, List.set_cons_succ]
 refine wpAnyH_take (i := 3) (oi := { dst := some 79, op := Op.load 3 (Operand.tmp 78), type := 3, pos := "store.go:96", after := #[{ on := 2, ground := Ground.data }], guard := none }) (v := ?_) rfl (by kernel_rfl) (by kernel_rfl) (by kernel_rfl) (fun _ _ _ h => h) (Or.inl ⟨by rfl, ?_⟩) (by assumption) ?_
 rotate_left
 ·intro X hSw; have zb := HT5.out.blk.below hSw HT5.out.blk.lt; have z2 := zb.cell 2; have z5 := zb.cell 5; unfold sc at z2 z5; simp at z2 z5; go_simp; try (with_reducible rfl)
 try simp only [Act.put, List.setIfInBounds_toArray, List.set_cons_zero, List.set_cons_succ]
 refine wpAnyH_take (i := 4) (oi := { dst := some 80, op := Op.move (Operand.tmp 0), type := 29, pos := "store.go:96", after := #[], guard := none }) (v := ?_) rfl (by kernel_rfl) (by kernel_rfl) (by kernel_rfl) (fun _ _ _ h => h) (Or.inl ⟨by rfl, ?_⟩) (by assumption) ?_
 rotate_left
 ·intro X hSw; go_simp; try (with_reducible rfl)
 try simp only [Act.put, List.setIfInBounds_toArray, List.set_cons_zero, List.set_cons_succ]
 refine wpAnyH_take (i := 5) (oi := { dst := some 81, op := Op.nilCheck (Operand.tmp 80), type := 0, pos := "store.go:96", after := #[{ on := 4, ground := Ground.data }], guard := none }) (v := ?_) rfl (by kernel_rfl) (by kernel_rfl) (by kernel_rfl) (fun _ _ _ h => h) (Or.inl ⟨by rfl, ?_⟩) (by assumption) ?_
 rotate_left
 ·intro X hSw; go_simp; try (with_reducible rfl)
 try simp only [Act.put, List.setIfInBounds_toArray, List.set_cons_zero, List.set_cons_succ]
 refine wpAnyH_take (i := 6) (oi := { dst := some 82, op := Op.fieldAddr 75 (Operand.tmp 81) 5, type := 0, pos := "store.go:96", after := #[{ on := 5, ground := Ground.data }], guard := none }) (v := ?_) rfl (by kernel_rfl) (by kernel_rfl) (by kernel_rfl) (fun _ _ _ h => h) (Or.inl ⟨by rfl, ?_⟩) (by assumption) ?_
 rotate_left
 ·intro X hSw; go_simp; try (with_reducible rfl)
 try simp only [Act.put, List.setIfInBounds_toArray, List.set_cons_zero, List.set_cons_succ]
 refine wpAnyH_take (i := 7) (oi := { dst := some 83, op := Op.load 3 (Operand.tmp 82), type := 3, pos := "store.go:96", after := #[{ on := 6, ground := Ground.data }], guard := none }) (v := ?_) rfl (by kernel_rfl) (by kernel_rfl) (by kernel_rfl) (fun _ _ _ h => h) (Or.inl ⟨by rfl, ?_⟩) (by assumption) ?_
 rotate_left
 ·intro X hSw; have zb := HT5.out.blk.below hSw HT5.out.blk.lt; have z2 := zb.cell 2; have z5 := zb.cell 5; unfold sc at z2 z5; simp at z2 z5; go_simp; try (with_reducible rfl)
 try simp only [Act.put, List.setIfInBounds_toArray, List.set_cons_zero, List.set_cons_succ]
 refine wpAnyH_take (i := 8) (oi := { dst := some 84, op := Op.move (Operand.tmp 1), type := 34, pos := "store.go:96", after := #[], guard := none }) (v := ?_) rfl (by kernel_rfl) (by kernel_rfl) (by kernel_rfl) (fun _ _ _ h => h) (Or.inl ⟨by rfl, ?_⟩) (by assumption) ?_
 rotate_left
 ·intro X hSw; go_simp; try (with_reducible rfl)
 try simp only [Act.put, List.setIfInBounds_toArray, List.set_cons_zero, List.set_cons_succ]
 refine wpAnyH_ready (rs := [9]) (by kernel_rfl) (by simp) ?_
 refine AllReadyH.cons (o := { dst := some 85, op := Op.call { callee := Callee.value (Operand.func 10), args := #[Operand.tmp 79, Operand.tmp 83, Operand.tmp 84], argTypes := #[3, 3, 34] }, type := 36, pos := "store.go:96", after := #[{ on := 3, ground := Ground.data }, { on := 7, ground := Ground.data }, { on := 8, ground := Ground.data }], guard := none }) rfl (fun K hK => ?_) AllReadyH.nil
 go_simp
 refine (HPA2.out _ (HC.out _ (HFM5.out.trans (Fr.of_below (D := fun _ => False) hHeld) (fun _ h => h.elim)))).mono ?_
 rintro e w6 ⟨pv, rfl, hop, hb6⟩
 obtain ⟨Ap, cp, hpv, hpc1, hpc2⟩ := hop.shape
 subst hpv
 have HOP6 := Lib.hid hop
 have HB6 := Lib.hid (hHeld.trans (hb6.mono hHeld.size))
 clear hop hb6
 try (go_wp2_with fail)
 have hHeld' := HB6.out
 refine hK.out _ _ ?_ (fun _ => ?_)
 ·exact hHeld'
 clear hK K hHeld
 have hHeld := hHeld'
 clear hHeld'
 try simp only [Act.put, List.setIfInBounds_toArray, List.set_cons_zero, List.set_cons_succ]
 refine wpAnyH_take (i := 10) (oi := { dst := some 75, op := Op.move (Operand.tmp 85), type := 36, pos := "store.go:96", after := #[{ on := 9, ground := Ground.data }], guard := none }) (v := ?_) rfl (by kernel_rfl) (by kernel_rfl) (by kernel_rfl) (fun _ _ _ h => h) (Or.inl ⟨by rfl, ?_⟩) (by assumption) ?_
 rotate_left
 ·intro X hSw; go_simp; try (with_reducible rfl)
 try simp only [Act.put, List.setIfInBounds_toArray, List.set_cons_zero, List.set_cons_succ]
 refine wpAnyH_take (i := 11) (oi := { dst := some 86, op := Op.extract (Operand.tmp 75) 0, type := 35, pos := "store.go:96", after := #[{ on := 10, ground := Ground.data }], guard := none }) (v := ?_) rfl (by kernel_rfl) (by kernel_rfl) (by kernel_rfl) (fun _ _ _ h => h) (Or.inl ⟨by rfl, ?_⟩) (by assumption) ?_
 rotate_left
 ·intro X hSw; go_simp; try (with_reducible rfl)
 try simp only [Act.put, List.setIfInBounds_toArray, List.set_cons_zero, List.set_cons_succ]
 refine wpAnyH_take (i := 12) (oi := { dst := some 87, op := Op.extract (Operand.tmp 75) 1, type := 4, pos := "store.go:96", after := #[{ on := 10, ground := Ground.data }, { on := 13, ground := Ground.gcOnly Departure.lateStores }], guard := none }) (v := ?_) rfl (by kernel_rfl) (by kernel_rfl) (by kernel_rfl) (fun _ _ _ h => h) (Or.inl ⟨by rfl, ?_⟩) (by assumption) ?_
 rotate_left
 ·intro X hSw; go_simp; try (with_reducible rfl)
 try simp only [Act.put, List.setIfInBounds_toArray, List.set_cons_zero, List.set_cons_succ]
 refine wpAnyH_take (i := 13) (oi := { dst := some 7, op := Op.assign (Operand.tmp 86), type := 35, pos := "store.go:96", after := #[{ on := 11, ground := Ground.data }, { on := 9, ground := Ground.chain }, { on := 0, ground := Ground.phase }, { on := 1, ground := Ground.phase }, { on := 2, ground := Ground.phase }, { on := 3, ground := Ground.phase }, { on := 4, ground := Ground.phase }, { on := 5, ground := Ground.phase }, { on := 6, ground := Ground.phase }, { on := 7, ground := Ground.phase }, { on := 8, ground := Ground.phase }, { on := 9, ground := Ground.phase }, { on := 10, ground := Ground.phase }, { on := 11, ground := Ground.phase }, { on := 12, ground := Ground.textOnly Departure.lateStores }], guard := none }) (v := ?_) rfl (by kernel_rfl) (by kernel_rfl) (by kernel_rfl) (fun _ _ _ h => h) (Or.inl ⟨by rfl, ?_⟩) (by assumption) ?_
 rotate_left
 ·intro X hSw; go_simp; try (with_reducible rfl)
 try simp only [Act.put, List.setIfInBounds_toArray, List.set_cons_zero, List.set_cons_succ]
 refine wpAnyH_done (by kernel_rfl) ?_ _
 clear hHeld
 have HT := Lib.hid (HT5.out.below HB6.out)
 have HDB := Lib.hid (show ∀ k, D' k → k < w5.heap.size from HT5.out.dev.lt)
 have HBS := Lib.hid (show w5.heap.size ≤ w6.drew.heap.size from HB6.out.size)
 have HPN := Lib.hid (show PN w6 w5.heap.size (.slice Ap P3.length cp) P3 from HOP6.out.pn)
 have HLO := Lib.hid (show y.d.loose.length + P3.length < 100000 by omega)
 have hs2 := HB2.out.size
 have hs34 := HB34.out.size
 have hs45 := HF45.out.size
 have hs56 := HB6.out.size
 obtain ⟨R3, hR3⟩ : ∃ R3 : Nat → Prop, R3 = fun k => w2.heap.size ≤ k ∧ k < w3.heap.size := ⟨_, rfl⟩
 have HMN := Lib.hid (show ∀ k, R3 k → ¬ M k by intro k hr hm; rw [hR3] at hr; have := H.out.lt k hm; omega)
 have HMN2 := Lib.hid (show ∀ k, R3 k → ¬ M' k by intro k hr hm; rcases HK5.out k hm with h1 | h1; exact HMN.out k hr h1; rw [hR3] at hr; omega)
 have HR3 := Lib.hid (show RO R3 w6 (.slice A3 RO'.length c3) RO' from ((by rw [hR3]; exact or_ro HOR.out (Nat.le_refl _) : RO R3 w3 (.slice A3 RO'.length c3) RO')).keep (by omega) (fun k hr => by have hr2 := hr; rw [hR3] at hr2; exact (HB6.out.block k (by omega)).trans ((HF45.out.block k (by omega) (HMN.out k hr)).trans (HB34.out.block k hr2.2))))
 have HR3D := Lib.hid (show ∀ k, R3 k → ¬ D' k ∧ k ≠ g ∧ k < w6.heap.size by intro k hr; have hm := HMN2.out k hr; have hr2 := hr; rw [hR3] at hr2; exact ⟨fun hd => hm ((HT5.out.hM k).2 (.inl hd)), fun he => hm ((HT5.out.hM k).2 (.inr (.inl he))), by omega⟩)
 have HYE := Lib.hid (show putS (ckS x) cs = ⟨(writeL y.d (2 + y.us) P3 P3.length).flush, RO', y.ep, y.ar, y.us + P3.length, y.fr + 1⟩ by rw [← HY.out]; unfold putS; rw [← HP3.out, HRO.out, show y.rows = x.rows by rw [HY.out]; rfl])
 have HFM := Lib.hid (HFM5.out.trans (Fr.of_below (D := fun _ => False) HB6.out) (fun _ h => h.elim))
 have HMD := Lib.hid (show ∀ k, M' k → M k ∨ w.heap.size ≤ k by intro k hk; rcases HK5.out k hk with h1 | h1; exact .inl h1; exact .inr (by omega))
 have HNEW := Lib.hid (show ∀ k, R3 k → w.heap.size ≤ k by intro k hr; rw [hR3] at hr; omega)
 clear hR3
 have hbT : Dv.Blk w6 g 75 #[dv (.pointer (some ⟨dg, 0, none⟩)), rv', .int .i64 (y.ep : Int), .int .i64 (y.ar : Int), .int .i64 (y.us : Int), .int .i64 (y.fr : Int)] := HT.out.blk
 have HBT := Lib.hid hbT
 have hwr := wr_any (w := w6.drew) (2 + y.us) (.slice Ap P3.length cp) P3 w5.heap.size (HT.out.dev.below (Below.refl _ _).drew) HDB.out HBS.out (HPN.out.below (Below.refl _ _).drew) (by have := HLO.out; omega) (by omega)
 have hcu : ((2 + y.us : Nat) : Int) = 2 + (y.us : Int) := by omega
 rw [hcu] at hwr
 have HWR := Lib.hid hwr
 have hwu : IntKind.i64.wrap (2 + (y.us : Int)) = 2 + (y.us : Int) := by rw [IntKind.wrap_i64]; omega
 clear hwr hbT hcu
 go_wp2_with fail
 refine wp_region_held_drew (S := fun X => Dv.Blk X g 75 #[dv (.pointer (some ⟨dg, 0, none⟩)), rv', .int .i64 (y.ep : Int), .int .i64 (y.ar : Int), .int .i64 (y.us : Int), .int .i64 (y.fr : Int)]) (by kernel_rfl) HBT.out (fun hHeld => ?_)
 refine wpAnyH_take (i := 0) (oi := { dst := some 88, op := Op.move (Operand.tmp 0), type := 29, pos := "store.go:98", after := #[], guard := none }) (v := ?_) rfl (by kernel_rfl) (by kernel_rfl) (by kernel_rfl) (fun _ _ _ h => h) (Or.inl ⟨by rfl, ?_⟩) (by assumption) ?_
 rotate_left
 ·intro X hSw; go_simp; try (with_reducible rfl)
 try simp only [Act.put, List.setIfInBounds_toArray, List.set_cons_zero, List.set_cons_succ]
 refine wpAnyH_take (i := 1) (oi := { dst := some 89, op := Op.nilCheck (Operand.tmp 88), type := 0, pos := "store.go:98", after := #[{ on := 0, ground := Ground.data }], guard := none }) (v := ?_) rfl (by kernel_rfl) (by kernel_rfl) (by kernel_rfl) (fun _ _ _ h => h) (Or.inl ⟨by rfl, ?_⟩) (by assumption) ?_
 rotate_left
 ·intro X hSw; go_simp; try (with_reducible rfl)
 try simp only [Act.put, List.setIfInBounds_toArray, List.set_cons_zero, List.set_cons_succ]
 refine wpAnyH_take (i := 2) (oi := { dst := some 90, op := Op.fieldAddr 75 (Operand.tmp 89) 0, type := 0, pos := "store.go:98", after := #[{ on := 1, ground := Ground.data }], guard := none }) (v := ?_) rfl (by kernel_rfl) (by kernel_rfl) (by kernel_rfl) (fun _ _ _ h => h) (Or.inl ⟨by rfl, ?_⟩) (by assumption) ?_
 rotate_left
 ·intro X hSw; go_simp; try (with_reducible rfl)
 try simp only [Act.put, List.setIfInBounds_toArray, List.set_cons_zero, List.set_cons_succ]
 refine wpAnyH_take (i := 3) (oi := { dst := some 91, op := Op.load 73 (Operand.tmp 90), type := 73, pos := "store.go:98", after := #[{ on := 2, ground := Ground.data }], guard := none }) (v := ?_) rfl (by kernel_rfl) (by kernel_rfl) (by kernel_rfl) (fun _ _ _ h => h) (Or.inl ⟨by rfl, ?_⟩) (by assumption) ?_
 rotate_left
 ·intro X hSw; have z0 := hSw.cell 0; have z4 := hSw.cell 4; simp at z0 z4; go_simp; try (with_reducible rfl)
 try simp only [Act.put, List.setIfInBounds_toArray, List.set_cons_zero, List.set_cons_succ]
 refine wpAnyH_take (i := 4) (oi := { dst := some 92, op := Op.move (Operand.tmp 0), type := 29, pos := "store.go:98", after := #[], guard := none }) (v := ?_) rfl (by kernel_rfl) (by kernel_rfl) (by kernel_rfl) (fun _ _ _ h => h) (Or.inl ⟨by rfl, ?_⟩) (by assumption) ?_
 rotate_left
 ·intro X hSw; go_simp; try (with_reducible rfl)
 try simp only [Act.put, List.setIfInBounds_toArray, List.set_cons_zero, List.set_cons_succ]
 refine wpAnyH_take (i := 5) (oi := { dst := some 93, op := Op.nilCheck (Operand.tmp 92), type := 0, pos := "store.go:98", after := #[{ on := 4, ground := Ground.data }], guard := none }) (v := ?_) rfl (by kernel_rfl) (by kernel_rfl) (by kernel_rfl) (fun _ _ _ h => h) (Or.inl ⟨by rfl, ?_⟩) (by assumption) ?_
 rotate_left
 ·intro X hSw; go_simp; try (with_reducible rfl)
 try simp only [Act.put, List.setIfInBounds_toArray, List.set_cons_zero, List.set_cons_succ]
 refine wpAnyH_take (i := 6) (oi := { dst := some 94, op := Op.fieldAddr 75 (Operand.tmp 93) 4, type := 0, pos := "store.go:98", after := #[{ on := 5, ground := Ground.data }], guard := none }) (v := ?_) rfl (by kernel_rfl) (by kernel_rfl) (by kernel_rfl) (fun _ _ _ h => h) (Or.inl ⟨by rfl, ?_⟩) (by assumption) ?_
 rotate_left
 ·intro X hSw; go_simp; try (with_reducible rfl)
 try simp only [Act.put, List.setIfInBounds_toArray, List.set_cons_zero, List.set_cons_succ]
 refine wpAnyH_take (i := 7) (oi := { dst := some 95, op := Op.load 3 (Operand.tmp 94), type := 3, pos := "store.go:98", after := #[{ on := 6, ground := Ground.data }], guard := none }) (v := ?_) rfl (by kernel_rfl) (by kernel_rfl) (by kernel_rfl) (fun _ _ _ h => h) (Or.inl ⟨by rfl, ?_⟩) (by assumption) ?_
 rotate_left
 ·intro X hSw; have z0 := hSw.cell 0; have z4 := hSw.cell 4; simp at z0 z4; go_simp; try (with_reducible rfl)
 try simp only [Act.put, List.setIfInBounds_toArray, List.set_cons_zero, List.set_cons_succ]
 refine wpAnyH_take (i := 8) (oi := { dst := some 96, op := Op.binOp BinOp.add 3 (Operand.const (Value.int IntKind.i64 2)) (Operand.tmp 95) 3, type := 3, pos := "store.go:98", after := #[{ on := 7, ground := Ground.data }], guard := none }) (v := ?_) rfl (by kernel_rfl) (by kernel_rfl) (by kernel_rfl) (fun _ _ _ h => h) (Or.inl ⟨by rfl, ?_⟩) (by assumption) ?_
 rotate_left
 ·intro X hSw; go_simp; try (with_reducible rfl)
 try simp only [Act.put, List.setIfInBounds_toArray, List.set_cons_zero, List.set_cons_succ]
 refine wpAnyH_take (i := 9) (oi := { dst := some 97, op := Op.move (Operand.tmp 7), type := 35, pos := "store.go:98", after := #[], guard := none }) (v := ?_) rfl (by kernel_rfl) (by kernel_rfl) (by kernel_rfl) (fun _ _ _ h => h) (Or.inl ⟨by rfl, ?_⟩) (by assumption) ?_
 rotate_left
 ·intro X hSw; go_simp; try (with_reducible rfl)
 try simp only [Act.put, List.setIfInBounds_toArray, List.set_cons_zero, List.set_cons_succ]
 refine wpAnyH_ready (rs := [10]) (by kernel_rfl) (by simp) ?_
 refine AllReadyH.cons (o := { dst := some 98, op := Op.call { callee := Callee.value (Operand.func 19), args := #[Operand.tmp 91, Operand.tmp 96, Operand.tmp 97], argTypes := #[73, 3, 35] }, type := 0, pos := "store.go:98", after := #[{ on := 3, ground := Ground.data }, { on := 8, ground := Ground.data }, { on := 9, ground := Ground.data }], guard := none }) rfl (fun K hK => ?_) AllReadyH.nil
 go_simp
 refine HWR.out.mono ?_
 rintro e w7 ⟨rfl, E7, hE7, hF7, hk7⟩
 have HB7 := Lib.hid (show Dv.Blk w7 g 75 #[dv (.pointer (some ⟨dg, 0, none⟩)), rv', .int .i64 (y.ep : Int), .int .i64 (y.ar : Int), .int .i64 (y.us : Int), .int .i64 (y.fr : Int)] from HBT.out.same (hF7.block g HBT.out.lt HT.out.hg))
 have HE7 := Lib.hid hE7
 have HF7 := Lib.hid (show Fr D' w6 w7 from (Fr.refl D' w6).drew.trans hF7 (fun _ h => .inl h))
 have HK7 := Lib.hid (show ∀ k, E7 k → D' k ∨ w6.heap.size ≤ k from hk7)
 clear hE7 hF7 hk7
 try (go_wp2_with fail)
 have hHeld' := HB7.out
 refine hK.out _ _ ?_ (fun _ => ?_)
 ·exact hHeld'
 clear hK K hHeld
 have hHeld := hHeld'
 clear hHeld'
 try simp only [Act.put, List.setIfInBounds_toArray, List.set_cons_zero, List.set_cons_succ]
 refine wpAnyH_done (by kernel_rfl) ?_ _
 clear hHeld
 have p0 := HB7.out.cell 0
 simp at p0
 go_wp2_with fail
 go_at_call 20
 refine (flush_any HE7.out).mono ?_
 rintro e w8 ⟨rfl, hF8, hE8⟩
 have hng : ¬ E7 g := fun hh => by rcases HK7.out g hh with h1 | h1; exact HT.out.hg h1; have := HT.out.blk.lt; omega
 have HB8 := Lib.hid (show Dv.Blk w8 g 75 #[dv (.pointer (some ⟨dg, 0, none⟩)), rv', .int .i64 (y.ep : Int), .int .i64 (y.ar : Int), .int .i64 (y.us : Int), .int .i64 (y.fr : Int)] from HB7.out.same (hF8.block g HB7.out.lt hng))
 have HE8 := Lib.hid hE8
 have HF8 := Lib.hid hF8
 have HNG := Lib.hid hng
 have q1 := HB8.out.cell 1
 have q4 := HB8.out.cell 4
 have q5 := HB8.out.cell 5
 have y1 := HB8.out.frozen 1
 have y4 := HB8.out.frozen 4
 have y5 := HB8.out.frozen 5
 simp at q1 q4 q5
 clear hF8 hE8 hng p0
 have hwu2 : IntKind.i64.wrap ((y.us : Int) + (P3.length : Int)) = (y.us : Int) + (P3.length : Int) := by rw [IntKind.wrap_i64]; omega
 have hwf2 : IntKind.i64.wrap ((y.fr : Int) + 1) = (y.fr : Int) + 1 := by rw [IntKind.wrap_i64]; omega
 go_wp2
 go_ret
 refine ⟨rfl, fun k => E7 k ∨ k = g ∨ R3 k, ⟨E7, R3, g, .slice A3 RO'.length c3, rfl, ?_⟩, ?_, ?_⟩
 ·exact put_end HT.out HR3.out HR3D.out HF7.out HK7.out HE8.out HF8.out HB8.out HYE.out
 ·exact put_fr HT.out HF7.out HK7.out HF8.out _ _ _ HFM.out HMD.out
 ·exact put_new HT.out HK7.out HFM.out.size HNEW.out HMD.out
end Go.Proofs.Ytmbkaedhllfoeaa
namespace Go.Proofs.Ytmbkaedhllfoeaa
open Go.RowKit Go.Rst Go.Dv Go.Crc Go.Str Go.Pg
theorem commit_any {dg : Nat} {M : Nat → Prop} {w : World} {sv lv : Value} {x : Ss} {cs : List Chg} (h : Sto dg M w sv x) (hG : GoodX x) (hc : CO M w lv cs) (hcb : (chgsB cs).length ≤ 100000000) (hcs : cs.length ≤ 100000) (hcv : ∀ r ∈ cs, r.2.1.length ≤ 1000000000) :
  Calls Try.prog 12 #[sv, lv] w fun e w' => e = .returned (.int .u16 ((commitR x cs).2 : Int)) ∧ SDid dg M w sv (commitR x cs).1 w' := by
 have stay : ∀ {n : Nat} {w'}, commitR x cs = (x, n) → Below w.heap.size w w' → SDid dg M w sv (commitR x cs).1 w' := fun he hb => by rw [he]; exact SDid.same (h.below hb) (Fr.of_below hb)
 by_cases h1 : cs = []
 ·have he : commitR x cs = (x, 0) := by unfold commitR; rw [if_pos h1]
  subst h1
  refine (commit_nil h hc.rc).mono ?_
  rintro e w' ⟨rfl, rfl⟩
  exact ⟨by rw [he]; rfl, stay he (Below.refl _ _)⟩
 cases h2 : cs.any longC with
 | true =>
  have he : commitR x cs = (x, 3) := by unfold commitR; rw [if_neg h1, if_pos h2]
  refine (commit_long h hc h1 h2).mono ?_
  rintro e w' ⟨rfl, hb⟩
  exact ⟨by rw [he]; rfl, stay he hb⟩
 | false =>
 have h2' : ¬ cs.any longC = true := by rw [h2]; decide
 by_cases h3 : (partsL (x.ep : Int) (x.fr : Int) cs).2 = false ∨ jN x.n < (partsL (x.ep : Int) (x.fr : Int) cs).1.length
 ·have he : commitR x cs = (x, 21) := by unfold commitR; rw [if_neg h1, if_neg h2', if_pos h3]
  refine (commit_parts h hG hc h1 h2 hcb hcs hcv h3).mono ?_
  rintro e w' ⟨rfl, hb⟩
  exact ⟨by rw [he]; rfl, stay he hb⟩
 have h3a : (partsL (x.ep : Int) (x.fr : Int) cs).2 = true := by
  cases hh : (partsL (x.ep : Int) (x.fr : Int) cs).2 with
  | true => rfl
  | false => exact absurd (.inl hh) h3
 have h3b : (partsL (x.ep : Int) (x.fr : Int) cs).1.length ≤ jN x.n := by
  rcases Nat.lt_or_ge (jN x.n) (partsL (x.ep : Int) (x.fr : Int) cs).1.length with hh | hh
  ·exact absurd (.inr hh) h3
  ·exact hh
 cases h4 : fitB x.n (applyL x.rows cs) with
 | false =>
  have he : commitR x cs = (x, 21) := by unfold commitR; rw [if_neg h1, if_neg h2', if_neg h3, if_pos h4]
  refine (commit_fit h hG hc h1 h2 hcb hcs hcv h3a h3b h4).mono ?_
  rintro e w' ⟨rfl, hb⟩
  exact ⟨by rw [he]; rfl, stay he hb⟩
 | true =>
 have h4' : ¬ fitB x.n (applyL x.rows cs) = false := by rw [h4]; decide
 by_cases h5 : x.us + (partsL (x.ep : Int) (x.fr : Int) cs).1.length ≤ jN x.n
 ·have he : commitR x cs = (putS x cs, 0) := by unfold commitR; rw [if_neg h1, if_neg h2', if_neg h3, if_neg h4', if_pos h5]
  refine (commit_put h hG hc h1 h2 hcb hcs hcv h3a h3b h4 h5).mono ?_
  rintro e w' ⟨rfl, hd⟩
  exact ⟨by rw [he]; rfl, by rw [he]; exact hd⟩
 have h5' : jN x.n < x.us + (partsL (x.ep : Int) (x.fr : Int) cs).1.length := Nat.lt_of_not_le h5
 by_cases h6 : x.ep = 1073741824
 ·have he : commitR x cs = (x, 32) := by unfold commitR; rw [if_neg h1, if_neg h2', if_neg h3, if_neg h4', if_neg h5, if_pos h6]
  refine (commit_over h hG hc h1 h2 hcb hcs hcv h3a h3b h4 h5' h6).mono ?_
  rintro e w' ⟨rfl, hb⟩
  exact ⟨by rw [he]; rfl, stay he hb⟩
 ·have he : commitR x cs = (putS (ckS x) cs, 0) := by unfold commitR; rw [if_neg h1, if_neg h2', if_neg h3, if_neg h4', if_neg h5, if_neg h6]
  refine (commit_ck h hG hc h1 h2 hcb hcs hcv h3a h3b h4 h5' (by have := hG.ep; omega)).mono ?_
  rintro e w' ⟨rfl, hd⟩
  exact ⟨by rw [he]; rfl, by rw [he]; exact hd⟩
end Go.Proofs.Ytmbkaedhllfoeaa
namespace Go.Proofs.Ytmbkaedhllfoeaa
open Go.RowKit Go.Rst Go.Dv Go.Crc Go.Str Go.Pg
theorem ok_writeL {s : Sim} (h : OK s) (a : Nat) (ps : List (List UInt8)) : ∀ k, s.loose.length + k < 100000 → OK (writeL s a ps k)
 | 0, _ => h
 | k + 1, hk => by
  have := writeL_loose s a ps k
  exact (ok_writeL h a ps k (by omega)).write _ _ (by omega)
theorem flush_calm {s : Sim} (h : s.flush.goes = true) : s.flush.loose = [] := by
 by_cases hg : s.goes = true
 ·exact (flush_live hg).2
 ·have hg' : s.goes = false := by simpa using hg
  rw [flush_dead hg'] at h
  exact (hg h).elim
theorem layS_calm {s : Sim} {ep ar : Nat} {ps : List (List UInt8)} (h : (layS s ep ar ps).goes = true) : (layS s ep ar ps).loose = [] := flush_calm h
theorem ok_layS {s : Sim} (h : OK s) (ep ar : Nat) {ps : List (List UInt8)} (h256 : ∀ p ∈ ps, p.length = 256) (hl : s.loose.length + ps.length * 4 + 1 < 100000) : OK (layS s ep ar ps) := by
 have hc := chunk64_len h256
 have h1 := writeL_loose s (firstN s.firm.length ar) (chunkL64 ps.flatten) (chunkL64 ps.flatten).length
 have h2 := flush_loose (writeL s (firstN s.firm.length ar) (chunkL64 ps.flatten) (chunkL64 ps.flatten).length)
 exact ((ok_writeL h _ _ _ (by omega)).flush.write _ _ (by omega)).flush
def Fnd (x : Ss) : Prop := x.d.loose = [] ∧ ∃ l0 ps0, HdA x.d.firm x.ep x.ar l0 ps0 ∧ rowsOf x.d.firm x.ep l0 = x.rows
def Live (x : Ss) : Prop := x.d.loose = [] ∧ ∃ l0 ps fs, HdA x.d.firm x.ep x.ar l0 ps ∧ JrA x.d.firm x.ep fs ∧ x.fr = fs.length ∧ x.us = (secsF x.ep 0 fs).length ∧ applyL l0 fs.flatten = x.rows
theorem Live.fnd {x : Ss} (h : Live x) : Fnd x := by
 obtain ⟨h1, l0, ps, fs, h2, h3, _, _, h4⟩ := h
 exact ⟨h1, l0, ps, h2, by rw [h3.rows h2.e2, h4]⟩
structure InvS (x : Ss) : Prop where
 good : GoodX x
 live : x.d.goes = true → Live x
theorem good_fit {x : Ss} (h : GoodX x) : fitB x.n x.rows = true := by
 obtain ⟨ps, h1, h2⟩ := h.fit
 unfold fitB
 rw [h1]
 exact decide_eq_true h2
theorem ck_n (x : Ss) : (ckS x).n = x.n := layS_firm _ _ _ _
theorem ck_step {x : Ss} (hG : GoodX x) (hF : x.d.goes = true → Fnd x) (he : x.ep < 1073741824) :
  InvS (ckS x) ∧ (x.d.goes = true → ∀ K, Rcv (x.ep + 1) (krash (ckS x).d K) x.rows) ∧ (x.d.goes = false → (ckS x).d = x.d) := by
 obtain ⟨ps, hps, hpl⟩ := hG.fit
 have h256 := built_256 hps
 have hA := aN_le x.n
 have hm : x.n ≤ 4096 := hG.ok.n
 have hlo := hG.lo
 have har := hG.ar
 have hd : (ckS x).d = layS x.d (x.ep + 1) (1 - x.ar) ps := by unfold ckS; rw [hps]; rfl
 have hcalm := hG.calm
 have hloose : (ckS x).d.loose.length ≤ 8000 := by
  rw [hd]
  by_cases hg : x.d.goes = true
  ·have := layS_loose x.d (x.ep + 1) (1 - x.ar) ps h256
   rw [hcalm hg] at this
   simp only [List.length_nil] at this
   have hx : aN x.n ≤ 512 := by have := hG.n; omega
   omega
  ·rw [layS_dead (by simpa using hg)]
   exact hlo
 refine ⟨⟨⟨by rw [ck_n]; exact hG.n, by rw [hd]; exact ok_layS hG.ok _ _ h256 (by omega), ⟨ps, hps, by rw [ck_n]; exact hpl⟩, by show x.ep + 1 ≤ _; omega, by show 1 - x.ar ≤ 1; omega, Nat.zero_le _, Nat.le_refl _, hloose, fun hg => ?_⟩, fun hg => ?_⟩, fun hg => ?_, fun hg => ?_⟩
 ·rw [hd] at hg ⊢; exact layS_calm hg
 ·have hgx : x.d.goes = true := by
   rcases Bool.eq_false_or_eq_true x.d.goes with h | h
   ·exact h
   ·rw [hd, layS_dead h, h] at hg; cases hg
  obtain ⟨hl, l0, ps0, hH, hr⟩ := hF hgx
  obtain ⟨h1, _⟩ := lay_can hl hH hr (good_fit hG) hps hpl he
  rw [hd] at hg
  obtain ⟨a1, a2, a3⟩ := h1 hg
  exact ⟨by rw [hd]; exact a1, x.rows, ps, [], by rw [hd]; exact a2, by rw [hd]; exact a3, rfl, rfl, rfl⟩
 ·obtain ⟨hl, l0, ps0, hH, hr⟩ := hF hg
  obtain ⟨_, h2⟩ := lay_can hl hH hr (good_fit hG) hps hpl he
  rw [hd]
  exact h2
 ·rw [hd, layS_dead hg]
theorem InvS.fnd {x : Ss} (h : InvS x) (hg : x.d.goes = true) : Fnd x := (h.live hg).fnd
theorem InvS.rcv {x : Ss} (h : InvS x) (hg : x.d.goes = true) : Rcv x.ep x.d.firm x.rows := by
 obtain ⟨_, l0, ps, h1, h2⟩ := h.fnd hg
 exact ⟨x.ep, x.ar, l0, ps, h1, Nat.le_refl _, h2, good_fit h.good⟩
theorem put_n (x : Ss) (cs : List Chg) : (putS x cs).n = x.n := by
 show (writeL _ _ _ _).flush.firm.length = _
 rw [flush_firm, writeL_firm]
theorem put_step {x : Ss} {cs : List Chg} (hI : InvS x) (hp : (partsL x.ep x.fr cs).2 = true) (hft : fitB x.n (applyL x.rows cs) = true) (hroom : x.us + (partsL x.ep x.fr cs).1.length ≤ jN x.n) (hr : readChgs (chgsL cs) = (cs, 0)) :
  InvS (putS x cs) ∧ (x.d.goes = true → ∀ K, Rcv x.ep (krash (putS x cs).d K) x.rows ∨ Rcv x.ep (krash (putS x cs).d K) (applyL x.rows cs)) ∧ (x.d.goes = false → (putS x cs).d = x.d) := by
 have hG := hI.good
 have hJ := jN_le x.n
 have hm : x.n ≤ 4096 := hG.ok.n
 have hlo := hG.lo
 have hcalm := hG.calm
 have hpos : 0 < (partsL x.ep x.fr cs).1.length := by rw [parts_count hp]; exact chgsL_pieces cs
 have hlive : x.d.goes = true → ((putS x cs).d.goes = true → Live (putS x cs)) ∧ ∀ K, Rcv x.ep (krash (putS x cs).d K) x.rows ∨ Rcv x.ep (krash (putS x cs).d K) (applyL x.rows cs) := by
  intro hg
  obtain ⟨hl, l0, ps, fs, hH, hJr, h1, h2, h3⟩ := hI.live hg
  have e2 : applyL l0 (fs ++ [cs]).flatten = applyL x.rows cs := by rw [applyL_snoc2, h3]
  rw [h1] at hp
  rw [h1, h2] at hroom
  have hc := put_can (cs := cs) hl hH hJr hp hr hroom (by rw [h3]; exact good_fit hG) (by rw [e2]; exact hft)
  have hd : (putS x cs).d = (writeL x.d (2 + (secsF x.ep 0 fs).length) (partsL x.ep fs.length cs).1 (partsL x.ep fs.length cs).1.length).flush := by
   unfold putS
   rw [h1, h2]
  rw [← hd, h3, e2] at hc
  refine ⟨fun hgo => ?_, hc.2⟩
  obtain ⟨a1, a2, a3⟩ := hc.1 hgo
  refine ⟨a1, l0, ps, fs ++ [cs], a2, a3, ?_, ?_, e2⟩
  ·show x.fr + 1 = _
   rw [h1, List.length_append]
   rfl
  ·show x.us + (partsL x.ep x.fr cs).1.length = (secsF x.ep 0 (fs ++ [cs])).length
   rw [secsF_snoc, List.length_append, h1, h2, Nat.zero_add]
 have hdead : x.d.goes = false → (putS x cs).d = x.d := by
  intro hg
  show (writeL _ _ _ _).flush = x.d
  rw [writeL_dead hg, flush_dead hg]
 have hgof : (putS x cs).d.goes = true → x.d.goes = true := by
  intro hg
  rcases Bool.eq_false_or_eq_true x.d.goes with h | h
  ·exact h
  ·rw [hdead h, h] at hg; cases hg
 have hloose : (putS x cs).d.loose.length ≤ 8000 := by
  by_cases hg : x.d.goes = true
  ·have h1 := writeL_loose x.d (2 + x.us) (partsL x.ep x.fr cs).1 (partsL x.ep x.fr cs).1.length
   have h2 := flush_loose (writeL x.d (2 + x.us) (partsL x.ep x.fr cs).1 (partsL x.ep x.fr cs).1.length)
   rw [hcalm hg] at h1
   simp only [List.length_nil] at h1
   show (writeL x.d (2 + x.us) (partsL x.ep x.fr cs).1 (partsL x.ep x.fr cs).1.length).flush.loose.length ≤ _
   omega
  ·rw [hdead (by simpa using hg)]
   exact hlo
 refine ⟨⟨⟨by rw [put_n]; exact hG.n, ?_, by rw [put_n]; exact fit_ex hft, hG.ep, hG.ar, by rw [put_n]; exact hroom, ?_, hloose, fun hg => ?_⟩, fun hg => (hlive (hgof hg)).1 hg⟩, fun hg => (hlive hg).2, hdead⟩
 ·show OK (writeL x.d (2 + x.us) (partsL x.ep x.fr cs).1 (partsL x.ep x.fr cs).1.length).flush
  exact (ok_writeL hG.ok _ _ _ (by omega)).flush
 ·have := hG.fr
  show x.fr + 1 ≤ x.us + _
  omega
 ·exact flush_calm hg
theorem commit_step {x : Ss} {cs : List Chg} (hI : InvS x) (hr : cs.any longC = false → readChgs (chgsL cs) = (cs, 0)) :
  InvS (commitR x cs).1 ∧ (commitR x cs).1.n = x.n ∧ (commitR x cs).1.ep ≤ x.ep + 1 ∧ (x.d.goes = true → ∀ K, Rcv (x.ep + 1) (krash (commitR x cs).1.d K) x.rows ∨ Rcv (x.ep + 1) (krash (commitR x cs).1.d K) (commitR x cs).1.rows) ∧ (x.d.goes = false → (commitR x cs).1.d = x.d) ∧
   ((commitR x cs).2 = 0 → cs.any longC = false ∧ (commitR x cs).1.rows = applyL x.rows cs) ∧ ((commitR x cs).2 ≠ 0 → (commitR x cs).1 = x) := by
 have hsame : x.d.goes = true → ∀ K, Rcv (x.ep + 1) (krash x.d K) x.rows ∨ Rcv (x.ep + 1) (krash x.d K) x.rows := by
  intro hg K
  left
  show Rcv _ (kept x.d.firm x.d.loose K x.d.loose.length) _
  rw [(hI.live hg).1]
  exact (hI.rcv hg).more (by omega)
 unfold commitR
 by_cases h0 : cs = []
 ·rw [if_pos h0]
  subst h0
  exact ⟨hI, rfl, by show x.ep ≤ _; omega, hsame, fun _ => rfl, fun _ => ⟨rfl, rfl⟩, fun _ => rfl⟩
 rw [if_neg h0]
 by_cases h1 : cs.any longC = true
 ·rw [if_pos h1]
  exact ⟨hI, rfl, by show x.ep ≤ _; omega, hsame, fun _ => rfl, fun h => (by cases h), fun _ => rfl⟩
 rw [if_neg h1]
 have h1' : cs.any longC = false := by simpa using h1
 have hrc := hr h1'
 by_cases h2 : (partsL (x.ep : Int) (x.fr : Int) cs).2 = false ∨ jN x.n < (partsL (x.ep : Int) (x.fr : Int) cs).1.length
 ·rw [if_pos h2]
  exact ⟨hI, rfl, by show x.ep ≤ _; omega, hsame, fun _ => rfl, fun h => (by cases h), fun _ => rfl⟩
 rw [if_neg h2]
 have h2a : (partsL (x.ep : Int) (x.fr : Int) cs).2 = true := by
  rcases Bool.eq_false_or_eq_true (partsL (x.ep : Int) (x.fr : Int) cs).2 with h | h
  ·exact h
  ·exact (h2 (.inl h)).elim
 by_cases h3 : fitB x.n (applyL x.rows cs) = false
 ·rw [if_pos h3]
  exact ⟨hI, rfl, by show x.ep ≤ _; omega, hsame, fun _ => rfl, fun h => (by cases h), fun _ => rfl⟩
 rw [if_neg h3]
 have h3' : fitB x.n (applyL x.rows cs) = true := by simpa using h3
 by_cases h4 : x.us + (partsL (x.ep : Int) (x.fr : Int) cs).1.length ≤ jN x.n
 ·rw [if_pos h4]
  obtain ⟨a1, a2, a3⟩ := put_step hI h2a h3' h4 hrc
  exact ⟨a1, put_n x cs, by show x.ep ≤ _; omega, fun hg K => (a2 hg K).imp (fun h => h.more (by omega)) (fun h => h.more (by omega)), a3, fun _ => ⟨h1', rfl⟩, fun h => absurd rfl h⟩
 by_cases hov : x.ep = 1073741824
 ·rw [if_neg h4, if_pos hov]
  exact ⟨hI, rfl, by show x.ep ≤ _; omega, hsame, fun _ => rfl, fun h => (by cases h), fun _ => rfl⟩
 rw [if_neg h4, if_neg hov]
 have he : x.ep < 1073741824 := by have := hI.good.ep; omega
 obtain ⟨c1, c2, c3⟩ := ck_step hI.good (fun hg => hI.fnd hg) he
 have hp2 : (partsL ((ckS x).ep : Int) ((ckS x).fr : Int) cs).2 = true ∧ (partsL ((ckS x).ep : Int) ((ckS x).fr : Int) cs).1.length = (partsL (x.ep : Int) (x.fr : Int) cs).1.length := by
  obtain ⟨q1, q2, _, _, _, _⟩ := parts_of h2a
  have hq : (partsL ((ckS x).ep : Int) ((ckS x).fr : Int) cs).2 = true := by
   unfold partsL
   have e1 : (ckS x).ep = x.ep + 1 := rfl
   have e2 : (ckS x).fr = 0 := rfl
   rw [e1, e2, if_neg (by omega), if_neg (by omega)]
  exact ⟨hq, by rw [parts_count hq, parts_count h2a]⟩
 obtain ⟨p1, p2, p3⟩ := put_step c1 hp2.1 (by rw [ck_n]; exact h3') (by rw [ck_n]; show 0 + _ ≤ _; rw [hp2.2]; omega) hrc
 refine ⟨p1, by rw [put_n, ck_n], Nat.le_refl _, fun hg K => ?_, fun hg => by rw [p3 (by rw [c3 hg]; exact hg), c3 hg], fun _ => ⟨h1', rfl⟩, fun h => absurd rfl h⟩
 by_cases hgc : (ckS x).d.goes = true
 ·exact p2 hgc K
 ·left
  show Rcv _ (krash (putS (ckS x) cs).d K) _
  rw [p3 (by simpa using hgc)]
  exact c2 hg K
theorem and_snoc {a b c d e : Prop} (he : e) (h : a ∧ b ∧ c ∧ d) : a ∧ b ∧ c ∧ d ∧ e := ⟨h.1, h.2.1, h.2.2.1, h.2.2.2, he⟩
theorem put_flush {s : Sim} {i : Nat} {b : List UInt8} (hf : s.fuse = none) (hl : s.loose = []) (hi : i < s.firm.length) (hb : b.length = 64) : (s.write (i : Int) b).flush.loose = [] ∧ (s.write (i : Int) b).flush.firm = s.firm.set i b := by
 rw [write_live hi (Nat.le_of_eq hb) (goes_none hf)]
 have hg : (s.put i b).goes = true := goes_none (show s.fuse.map _ = none by rw [hf]; rfl)
 obtain ⟨f1, f2⟩ := flush_live hg
 have hpl : (s.put i b).loose = [(i, b)] := by
  show s.loose ++ [_] = _
  rw [hl, pad_same hb]
  rfl
 refine ⟨f2, ?_⟩
 rw [f1, hpl]
 rfl
theorem zeros_flush {s : Sim} {m : Nat} (hf : s.fuse = none) (hl : s.loose = []) (hm : m ≤ s.firm.length) :
  (writeL s 0 (List.replicate m []) m).flush.loose = [] ∧ (writeL s 0 (List.replicate m []) m).flush.fuse = none ∧ (writeL s 0 (List.replicate m []) m).flush.firm.length = s.firm.length ∧
   ∀ i, (writeL s 0 (List.replicate m []) m).flush.firm[i]? = if i < m then some (List.replicate 64 0) else s.firm[i]? := by
 have hfu := writeL_fuse hf 0 (List.replicate m []) m
 have hg := goes_none hfu
 obtain ⟨j, hj, h1, h2⟩ := writeL_run (s := s) (a := 0) (ps := List.replicate m []) (fun p hp => by rw [List.eq_of_mem_replicate hp]; exact Nat.zero_le _) m (by rw [List.length_replicate]; exact Nat.le_refl _) (by omega)
 have hjm : j = m := by
  rcases Nat.lt_or_ge j m with h | h
  ·rw [h2 h] at hg; cases hg
  ·omega
 subst hjm
 rw [hl, List.nil_append] at h1
 obtain ⟨f1, f2⟩ := flush_live hg
 refine ⟨f2, flush_fuse hfu, by rw [flush_firm, writeL_firm], fun i => ?_⟩
 rw [f1, h1, runL_len, writeL_firm, kept_run j (Nat.le_refl _)]
 by_cases hi : i < j
 ·rw [if_pos ⟨Nat.zero_le _, by omega, trues_get (by omega), by omega⟩, if_pos hi]
  congr 1
  rw [List.getD_eq_getElem?_getD, List.getElem?_replicate, if_pos (by omega)]
  rfl
 ·rw [if_neg (by omega), if_neg hi]
theorem zero_hok (most : Nat) : Str.hOk (List.replicate 64 0) most = false := by
 unfold Str.hOk
 rw [if_neg]
 have : Str.hEp (List.replicate 64 (0 : UInt8)) = 0 := by decide
 omega
theorem zero_wE : wE (List.replicate 64 0) = 0 := by decide
theorem format_can {s : Sim} (hok : OK s) (hf : s.fuse = none) (hl : s.loose = []) (hn : 64 ≤ s.firm.length) : (formatS s).fuse = none ∧ (formatS s).loose = [] ∧ (formatS s).firm.length = s.firm.length ∧ Rcv 1 (formatS s).firm [] ∧ HdA (formatS s).firm 1 0 [] ((buildL []).getD []) ∧ rowsOf (formatS s).firm 1 [] = [] ∧ fitB (formatS s).firm.length [] = true ∧ OK (formatS s) := by
 obtain ⟨p, hp⟩ := build_nil
 have h256 := built_256 hp
 have hA := aN_le s.firm.length
 have hApos := aN_pos hn
 obtain ⟨z1, z2, z3, z4⟩ := zeros_flush (m := 2 + jN s.firm.length) hf hl (by omega)
 have hfd : formatS s = layS (writeL s 0 (List.replicate (2 + jN s.firm.length) []) (2 + jN s.firm.length)).flush 1 0 [p] := by unfold formatS; rw [hp]; rfl
 rw [hfd]
 have z5 : OK (writeL s 0 (List.replicate (2 + jN s.firm.length) []) (2 + jN s.firm.length)).flush := (ok_writeL hok _ _ _ (by rw [hl]; have := hok.n; show 0 + _ < _; omega)).flush
 generalize (writeL s 0 (List.replicate (2 + jN s.firm.length) []) (2 + jN s.firm.length)).flush = t at *
 have hfa := firstN_le (n := t.firm.length) (area := 0) (k := 1) (by omega) (by omega) (by rw [z3]; omega)
 have hcl := chunk64_len h256
 have hca := chunk64_all h256
 simp only [List.length_singleton] at hcl
 have hw := writeL_flush (s := t) (a := firstN t.firm.length 0) (ps := chunkL64 [p].flatten) z1 hca (by rw [hcl]; exact hfa) (goes_none (writeL_fuse z2 _ _ _))
 have hwf := flush_fuse (writeL_fuse z2 (firstN t.firm.length 0) (chunkL64 [p].flatten) (chunkL64 [p].flatten).length)
 have hwl : (writeL t (firstN t.firm.length 0) (chunkL64 [p].flatten) (chunkL64 [p].flatten).length).flush.firm.length = t.firm.length := by rw [flush_firm, writeL_firm]
 have hge := firstN_ge t.firm.length 0
 refine ⟨layS_fuse z2 _ _ _, layS_calm (goes_none (layS_fuse z2 _ _ _)), (layS_firm _ _ _ _).trans z3, ?_⟩
 have hok2 : OK (layS t 1 0 [p]) := ok_layS z5 _ _ h256 (by rw [z1]; show 0 + 1 * 4 + 1 < 100000; omega)
 rw [hp]
 show Rcv 1 (layS t 1 0 [p]).firm [] ∧ HdA (layS t 1 0 [p]).firm 1 0 [] [p] ∧ rowsOf (layS t 1 0 [p]).firm 1 [] = [] ∧ fitB (layS t 1 0 [p]).firm.length [] = true ∧ OK (layS t 1 0 [p])
 refine and_snoc hok2 ?_
 unfold layS
 obtain ⟨f1, f2⟩ := put_flush (i := 1) (b := Str.headL 1 0 1) hwf hw.1 (by rw [hwl]; omega) (head_len _ _ _)
 show Rcv 1 (((writeL t (firstN t.firm.length 0) (chunkL64 [p].flatten) (chunkL64 [p].flatten).length).flush.write ((1 : Nat) : Int) (Str.headL 1 0 1)).flush.firm) [] ∧ HdA (((writeL t (firstN t.firm.length 0) (chunkL64 [p].flatten) (chunkL64 [p].flatten).length).flush.write ((1 : Nat) : Int) (Str.headL 1 0 1)).flush.firm) 1 0 [] [p] ∧ rowsOf (((writeL t (firstN t.firm.length 0) (chunkL64 [p].flatten) (chunkL64 [p].flatten).length).flush.write ((1 : Nat) : Int) (Str.headL 1 0 1)).flush.firm) 1 [] = [] ∧ fitB (((writeL t (firstN t.firm.length 0) (chunkL64 [p].flatten) (chunkL64 [p].flatten).length).flush.write ((1 : Nat) : Int) (Str.headL 1 0 1)).flush.firm).length [] = true
 rw [f2]
 obtain ⟨hw1, hw2⟩ := hw
 generalize (writeL t (firstN t.firm.length 0) (chunkL64 [p].flatten) (chunkL64 [p].flatten).length).flush = u at *
 have hsl : (u.firm.set 1 (Str.headL 1 0 1)).length = s.firm.length := by rw [List.length_set, hwl, z3]
 have hoth : ∀ i, i ≠ 1 → sec (u.firm.set 1 (Str.headL 1 0 1)) i = sec u.firm i := fun i hi => sec_get (by rw [List.getElem?_set, if_neg (fun h => hi h.symm)])
 have hz : ∀ i, i < 2 + jN s.firm.length → sec u.firm i = List.replicate 64 0 := by
  intro i hi
  refine sec_some ?_
  rw [hw2, if_neg (by rw [z3] at hge ⊢; omega), z4, if_pos hi]
 have hjr : ∀ j, j < jN s.firm.length → wE (sec (u.firm.set 1 (Str.headL 1 0 1)) (2 + j)) = 0 := by
  intro j hj
  rw [hoth _ (by omega), hz _ (by omega), zero_wE]
 have hH : HdA (u.firm.set 1 (Str.headL 1 0 1)) 1 0 [] [p] := by
  refine ⟨by rw [hsl]; exact hn, by rw [hsl]; exact hok.n, fun x hx => ?_, Nat.le_refl _, by omega, by omega, hp, by rw [hsl]; show 1 ≤ _; omega, ?_, ?_, ?_, ?_⟩
  ·rcases List.mem_or_eq_of_mem_set hx with hx | rfl
   ·obtain ⟨i, hi⟩ := List.getElem?_of_mem hx
    rw [hw2] at hi
    split at hi
    ·obtain rfl := Option.some.inj hi
     exact sec_len hca (by omega)
    ·rw [z4] at hi
     split at hi
     ·obtain rfl := Option.some.inj hi
      exact List.length_replicate
     ·exact hok.f x (List.mem_of_getElem? hi)
   ·exact head_len _ _ _
  ·exact sec_some (by rw [List.getElem?_set, if_pos rfl, if_pos (by rw [hwl]; omega)]; rfl)
  ·rw [hoth _ (by omega), hz _ (by omega), zero_hok]
   intro h
   cases h
  ·intro j hj
   rw [hsl, ← z3, hoth _ (by omega)]
   refine sec_some ?_
   simp only [List.length_singleton] at hj
   rw [hw2, if_pos ⟨by omega, by rw [hcl]; omega⟩, Nat.add_sub_cancel_left]
  ·intro j hj
   rw [hsl] at hj
   rw [hjr j hj]
   omega
 have hJ : JrA (u.firm.set 1 (Str.headL 1 0 1)) 1 [] := ⟨trivial, Nat.zero_le _, fun j hj => absurd hj (Nat.not_lt_zero _), fun j _ hj => by
  rw [hsl] at hj
  rw [hjr j hj]
  omega⟩
 have hft : fitB (u.firm.set 1 (Str.headL 1 0 1)).length [] = true := by
  rw [hsl]
  unfold fitB
  rw [hp]
  exact decide_eq_true (by show 1 ≤ _; omega)
 exact ⟨⟨1, 0, [], [p], hH, Nat.le_refl _, hJ.rows (by omega) [], hft⟩, hH, hJ.rows (by omega) [], hft⟩
end Go.Proofs.Ytmbkaedhllfoeaa
namespace Go.Proofs.Ytmbkaedhllfoeaa
open Go.RowKit Go.Rst Go.Dv Go.Crc Go.Str Go.Pg
abbrev dp (dg : Nat) : Value := .pointer (some ⟨dg, 0, none⟩)
def OwnS (B dg : Nat) (w : World) (sv : Value) (x : Ss) : Prop := ∃ M : Nat → Prop, Sto dg M w sv x ∧ (∀ k, M k → B ≤ k) ∧ B ≤ w.heap.size
section
variable {B dg : Nat} {w0 w w' : World} {sv : Value} {x : Ss}
theorem OwnS.below (h : OwnS B dg w sv x) (hb : Below w.heap.size w w') : OwnS B dg w' sv x := by
 obtain ⟨M, h1, h2, h3⟩ := h
 exact ⟨M, h1.below hb, h2, Nat.le_trans h3 hb.size⟩
theorem OwnS.ptr (h : OwnS B dg w sv x) : ∃ g, sv = .pointer (some ⟨g, 0, none⟩) := by
 obtain ⟨M, ⟨D, R, g, rv, h1, _⟩, _⟩ := h
 exact ⟨g, h1⟩
theorem OwnS.size (h : OwnS B dg w sv x) : B ≤ w.heap.size := by obtain ⟨M, _, _, h3⟩ := h; exact h3
theorem OwnS.dev (h : OwnS B dg w sv x) : Dv.Own B w (dp dg) x.d := by
 obtain ⟨M, ⟨D, R, g, rv, _, h1⟩, h2, h3⟩ := h
 exact ⟨D, h1.dev, fun k hk => h2 k ((h1.hM k).2 (.inl hk)), h3⟩
theorem SDid.own {M : Nat → Prop} (hM : ∀ k, M k → B ≤ k) (hB : B ≤ w.heap.size) (h : SDid dg M w sv x w') : OwnS B dg w' sv x ∧ Below B w w' := by
 obtain ⟨M', h1, h2, h3⟩ := h
 exact ⟨⟨M', h1, fun k hk => by rcases h3 k hk with h | h; exact hM k h; omega, Nat.le_trans hB h2.size⟩, h2.below hM hB⟩
theorem own_rowsS (h : OwnS B dg w sv x) (hG : GoodX x) : Calls Try.prog 14 #[sv] w fun e w' => ∃ v, e = .returned v ∧ OR 5 47 w' w.heap.size v x.rows ∧ Below w.heap.size w w' := by
 obtain ⟨M, h1, _⟩ := h
 exact rowsS_any h1 (by have := (rows_few_ hG).2; omega) (fun r hr => by have := rows_val hG r hr; omega)
theorem own_epochS (h : OwnS B dg w sv x) : Calls Try.prog 11 #[sv] w fun e w' => e = .returned (.int .i64 (x.ep : Int)) ∧ w = w' := by
 obtain ⟨M, h1, _⟩ := h
 exact epoch_any h1
theorem oc_fr {M : Nat → Prop} {base : Nat} {lv : Value} {cs : List Chg} (h : OC 5 33 w base lv cs) (hf : Fr M w w') (hM : ∀ k, M k → k < base) : OC 5 33 w' base lv cs := by
 obtain ⟨us, h1, ho, hfb⟩ := h
 refine ⟨us, h1, own_same ho (fun k hk => ?_), fun y hy => ?_⟩
 ·have hl := ho.lt k hk
  exact hf.block k hl.2 (fun hm => by have := hM k hm; omega)
 ·rcases hfb y hy with h | ⟨g, c, cur, fr, e1, e2, e3, e4⟩
  ·exact .inl h
  ·exact .inr ⟨g, c, cur, fr, e1, e2, (hf.block g (Array.getElem?_eq_some_iff.1 e3).1 (fun hm => by have := hM g hm; omega)).trans e3, e4⟩
theorem oc_co {M : Nat → Prop} {base : Nat} {lv : Value} {cs : List Chg} (h : OC 5 33 w base lv cs) (hM : ∀ k, M k → k < base) : CO M w lv cs := fun _ hf => (oc_fr h hf hM).rc
theorem own_commitS {lv : Value} {cs : List Chg} (h : OwnS B dg w0 sv x) (hbel : Below w0.heap.size w0 w) (hG : GoodX x) (hc : OC 5 33 w w0.heap.size lv cs) (hcn : cs.length ≤ 5000) (hcs : sizesC cs ≤ 90000) :
  Calls Try.prog 12 #[sv, lv] w fun e w' => e = .returned (.int .u16 ((commitR x cs).2 : Int)) ∧ OwnS B dg w' sv (commitR x cs).1 ∧ Below B w w' ∧ OC 5 33 w' w0.heap.size lv cs := by
 obtain ⟨M, h1, h2, h3⟩ := h
 obtain ⟨q1, q2⟩ := chgsB_few cs hcs
 refine (commit_any (h1.below hbel) hG (oc_co hc h1.lt) (by omega) (by omega) q2).mono ?_
 rintro e w' ⟨he, hd⟩
 obtain ⟨a1, a2⟩ := hd.own h2 (Nat.le_trans h3 hbel.size)
 obtain ⟨M', _, d2, _⟩ := hd
 exact ⟨he, a1, a2, oc_fr hc d2 h1.lt⟩
theorem own_formatS {s : Sim} (h : Dv.Own B w (dp dg) s) (hn : 64 ≤ s.firm.length) (hl : s.loose.length ≤ 40000) : Calls Try.prog 7 #[dp dg] w fun e w' => e = .returned (.int .u16 0) ∧ Dv.Own B w' (dp dg) (formatS s) ∧ Below B w w' := by
 obtain ⟨D, h1, h2, h3⟩ := h
 refine (format_st h1 hn hl).mono ?_
 rintro e w' ⟨he, hd⟩
 exact ⟨he, Own.did h2 h3 hd⟩
theorem own_openS {s : Sim} (h : Dv.Own B w (dp dg) s) (hn : 64 ≤ s.firm.length) (hlo : s.loose.length ≤ 8000) (hcalm : s.goes = true → s.loose = []) :
  Calls Try.prog 9 #[dp dg] w fun e w' => ∃ sv, e = .returned (.tuple #[sv, .int .u16 ((openR s).1 : Int)]) ∧ Below B w w' ∧ (((openR s).1 ≠ 0 ∧ sv = .pointer none ∧ Dv.Own B w' (dp dg) s) ∨ ((openR s).1 = 0 ∧ OwnS B dg w' sv (openR s).2)) := by
 obtain ⟨D, h1, h2, h3⟩ := h
 refine (open_any h1 hn hlo hcalm).mono ?_
 rintro e w' ⟨sv, he, h4⟩
 refine ⟨sv, he, ?_⟩
 rcases h4 with ⟨a1, a2, a3⟩ | ⟨a1, M', a2, a3, a4⟩
 ·exact ⟨a3.mono h3, .inl ⟨a1, a2, ⟨D, h1.below a3, h2, Nat.le_trans h3 a3.size⟩⟩⟩
 ·exact ⟨a3.below h2 h3, .inr ⟨a1, M', a2, fun k hk => by rcases a4 k hk with h | h; exact h2 k h; omega, Nat.le_trans h3 a3.size⟩⟩
theorem own_openOk {s : Sim} {y : Ss} (h : Dv.Own B w (dp dg) s) (hn : 64 ≤ s.firm.length) (hlo : s.loose = []) (ho : openR s = (0, y)) :
  Calls Try.prog 9 #[dp dg] w fun e w' => ∃ sv, e = .returned (.tuple #[sv, .int .u16 0]) ∧ OwnS B dg w' sv y ∧ Below B w w' := by
 refine (own_openS h hn (by rw [hlo]; exact Nat.zero_le _) (fun _ => hlo)).mono ?_
 rintro e w' ⟨sv, he, hb, h4⟩
 rw [ho] at he h4
 rcases h4 with ⟨a1, _⟩ | ⟨_, a2⟩
 ·exact (a1 rfl).elim
 ·exact ⟨sv, he, a2, hb⟩
end
def openedS (s : Sim) : Ss := ckS ⟨formatS s, [], 1, 0, 0, 0⟩
theorem open_format {s : Sim} (hok : OK s) (hf : s.fuse = none) (hl : s.loose = []) (hn : 64 ≤ s.firm.length) :
  openR (formatS s) = (0, openedS s) ∧ InvS (openedS s) ∧ (openedS s).d.fuse = none ∧ (openedS s).n = s.firm.length ∧ (formatS s).loose = [] ∧ 64 ≤ (formatS s).firm.length := by
 obtain ⟨f1, f2, f3, f4, g1, g2, g3, g4⟩ := format_can hok hf hl hn
 unfold openedS
 generalize formatS s = t at *
 have ho := open_hd f2 g1 (by rw [g2]; exact g3) (by omega)
 rw [g2] at ho
 have hG : GoodX ⟨t, [], 1, 0, 0, 0⟩ := ⟨by show 64 ≤ t.firm.length; rw [f3]; exact hn, g4, fit_ex g3, by show 1 ≤ 1073741824; omega, by show 0 ≤ 1; omega, Nat.zero_le _, Nat.le_refl _, by show t.loose.length ≤ 8000; rw [f2]; exact Nat.zero_le _, fun _ => f2⟩
 obtain ⟨c1, _, _⟩ := ck_step hG (fun _ => ⟨f2, [], _, g1, g2⟩) (show 1 < 1073741824 by omega)
 exact ⟨ho, c1, layS_fuse f1 _ _ _, (ck_n _).trans f3, f2, by rw [f3]; exact hn⟩
end Go.Proofs.Ytmbkaedhllfoeaa
namespace Go.Proofs.Ytmbkaedhllfoeaa
open Go.RowKit Go.Rst Go.Dv Go.Crc Go.Str Go.Pg
theorem oc_lit1 {w : World} {b0 : Nat} {k : ByteArray} {u : Value} {l : List UInt8} {g : Bool} (hu : FB 5 w b0 u l) (hb : b0 ≤ w.heap.size) :
  OC 5 33 (w.alloc (.cells #[.string k, u, .bool g] 33)) b0 (.slice (some ⟨w.heap.size, 0, none⟩) 1 1) [(k, l, g)] := by
 refine ⟨[((k, l, g), u)], rfl, ⟨by simp [chCells], .inr ⟨w.heap.size, 1, #[.string k, u, .bool g], rfl, hb, heap_alloc_new w _, Nat.le_refl _, by unfold maxLen; omega, by simp, by simp [chCells]⟩⟩, fun x hx => ?_⟩
 simp only [List.mem_singleton] at hx
 subst hx
 exact hu.below ((Below.refl _ _).alloc (Nat.le_refl _) _)
theorem ex_readC : readChgs (chgsL [(⟨#[97]⟩, [], false)]) = ([(⟨#[97]⟩, [], false)], 0) := by decide +kernel
theorem sizesC_one (c : Chg) : sizesC [c] = c.1.size + c.2.1.length := by simp [sizesC]
theorem first_commit {x : Ss} (hn : x.n = 64) (hep : x.ep = 2) (hus : x.us = 0) (hfr : x.fr = 0) (hr : x.rows = []) : (commitR x [(⟨#[97]⟩, [], false)]).2 = 0 ∧ (commitR x [(⟨#[97]⟩, [], false)]).1.rows = [(⟨#[97]⟩, [])] := by
 have hp : (partsL (x.ep : Int) (x.fr : Int) [(⟨#[97]⟩, [], false)]).2 = true := by
  rw [hep, hfr]
  unfold partsL
  rw [if_neg (by omega), if_neg (by decide +kernel)]
 have hl : (partsL (x.ep : Int) (x.fr : Int) [(⟨#[97]⟩, [], false)]).1.length = 1 := by rw [parts_count hp]; decide +kernel
 have ha : applyL x.rows [(⟨#[97]⟩, [], false)] = [(⟨#[97]⟩, [])] := by rw [hr]; rfl
 have hf : fitB x.n (applyL x.rows [(⟨#[97]⟩, [], false)]) = true := by rw [ha, hn]; decide +kernel
 have hj : jN x.n = 16 := by rw [hn]; rfl
 unfold commitR
 rw [if_neg (by simp), if_neg (by decide), if_neg (by rw [hp, hl, hj]; decide), if_neg (by rw [hf]; decide), if_pos (by rw [hl, hus, hj]; decide)]
 exact ⟨rfl, ha⟩
theorem layout64 (w : World) : Calls Try.prog 18 #[.int .i64 64] w fun e w' => e = .returned (.tuple #[.int .i64 16, .int .i64 5]) ∧ w = w' := layout_any 64 (by omega) (by omega) w
set_option maxRecDepth 100000 in
set_option maxHeartbeats 2000000 in
theorem knownS_any (w : World) : Calls Try.prog 8 #[] w fun e w' => e = .returned (.bool true) ∧ Below w.heap.size w w' := by
 have hopen := open_format (s := Sim.new 64) (OK.new (by omega)) rfl rfl (by rw [new_firm]; omega)
 obtain ⟨o1, o2, o3, o4, o5, o6⟩ := hopen
 have hep : (openedS (Sim.new 64)).ep = 2 := rfl
 have hrw : (openedS (Sim.new 64)).rows = [] := rfl
 have hfc := first_commit (x := openedS (Sim.new 64)) (by rw [o4, new_firm]) hep rfl rfl hrw
 obtain ⟨S, hS⟩ : ∃ S, S = Sim.new 64 := ⟨_, rfl⟩
 rw [← hS] at o1 o2 o3 o4 o5 o6 hep hrw hfc
 obtain ⟨Y, hY⟩ : ∃ Y, Y = openedS S := ⟨_, rfl⟩
 rw [← hY] at o1 o2 o3 o4 hep hrw hfc
 obtain ⟨Z, hZ⟩ : ∃ Z, Z = commitR Y [(⟨#[97]⟩, [], false)] := ⟨_, rfl⟩
 have hcs := commit_step (cs := [(⟨#[97]⟩, [], false)]) o2 (fun _ => ex_readC)
 rw [← hZ] at hfc hcs
 have HI2 := Lib.hid hcs.1
 have HC := Lib.hid hfc
 have HO1 := Lib.hid o1
 have HI := Lib.hid o2
 have HO5 := Lib.hid o5
 have HO6 := Lib.hid o6
 have HEP := Lib.hid hep
 have HRW := Lib.hid hrw
 have HS := Lib.hid hS
 have HZ := Lib.hid hZ
 clear o1 o2 o3 o4 o5 o6 hep hrw hfc hS hY hcs hZ
 go_enter Try.func8, Try.ntmps8
 go_wp2_with (go_at_call 18; refine (layout64 _).mono ?_; rintro e w1 ⟨rfl, rfl⟩)
 refine (own_new (B := w.heap.size) 64 w (by omega) (Nat.le_refl _)).mono ?_
 rintro e w1 ⟨dg, rfl, hown, hb1⟩
 rw [← HS.out] at hown
 have HF := Lib.hid (own_formatS hown (by rw [HS.out, new_firm]; omega) (by rw [HS.out]; exact Nat.zero_le _))
 have HB1 := Lib.hid hb1
 clear hown hb1
 go_wp2_with fail
 go_at_call 7
 refine HF.out.mono ?_
 rintro e w2 ⟨rfl, hown2, hb2⟩
 have HOP := Lib.hid (own_openOk hown2 HO6.out HO5.out HO1.out)
 have HB2 := Lib.hid (HB1.out.trans hb2)
 clear hown2 hb2
 go_wp2_with fail
 go_at_call 9
 refine HOP.out.mono ?_
 rintro e w3 ⟨sv, rfl, hst, hb3⟩
 have HB3 := Lib.hid (HB2.out.trans hb3)
 obtain ⟨g, rfl⟩ := hst.ptr
 have HST := Lib.hid hst
 have he := own_epochS hst
 rw [HEP.out] at he
 have HE := Lib.hid he
 have hrw := own_rowsS hst HI.out.good
 rw [HRW.out] at hrw
 have HRWS := Lib.hid hrw
 clear hst hb3 he hrw
 go_wp2_with fail
 go_at_call 11
 refine HE.out.mono ?_
 rintro e w4 ⟨rfl, rfl⟩
 go_wp2_with fail
 go_at_call 14
 refine HRWS.out.mono ?_
 rintro e w4 ⟨rv, rfl, hor, hb4⟩
 obtain ⟨A4, c4, rfl⟩ := or_shape hor
 have HB4 := Lib.hid hb4
 clear hor hb4
 go_wp2_with fail
 go_at_call 12
 obtain ⟨W, hW⟩ : ∃ W, W = w4.alloc (Obj.cells #[Value.string { data := #[97] }, Value.slice none 0 0, Value.bool false] 33) := ⟨_, rfl⟩
 have hoc : OC 5 33 W w3.heap.size (.slice (some ⟨w4.heap.size, 0, none⟩) 1 1) [(⟨#[97]⟩, [], false)] := by
  rw [hW]
  exact oc_lit1 (.inl ⟨rfl, rfl⟩) HB4.out.size
 have hbW : Below w3.heap.size w3 W := by
  rw [hW]
  exact HB4.out.alloc HB4.out.size _
 rw [← hW]
 have hcm := own_commitS HST.out hbW HI.out.good hoc (by decide) (by rw [sizesC_one]; decide)
 rw [← HZ.out, HC.out.1] at hcm
 have HCM := Lib.hid hcm
 have HBW := Lib.hid (HB3.out.trans (hbW.mono HB3.out.size))
 clear hoc hbW hcm hW
 refine HCM.out.mono ?_
 rintro e w5 ⟨rfl, hst5, hb5, _⟩
 have hr2 := own_rowsS hst5 HI2.out.good
 rw [HC.out.2] at hr2
 have HR2 := Lib.hid hr2
 have HB5 := Lib.hid (HBW.out.trans hb5)
 clear hst5 hb5 hr2
 go_wp2_with fail
 go_at_call 14
 refine HR2.out.mono ?_
 rintro e w6 ⟨rv6, rfl, hor6, hb6⟩
 obtain ⟨A6, c6, rfl⟩ := or_shape hor6
 have HB6 := Lib.hid (HB5.out.trans (hb6.mono HB5.out.size))
 clear hor6 hb6
 go_wp2
 go_ret
 exact ⟨rfl, HB6.out⟩
end Go.Proofs.Ytmbkaedhllfoeaa
namespace Go.Proofs.Ytmbkaedhllfoeaa
open Go.RowKit Go.Rst Go.Dv Go.Crc Go.Str Go.Pg
def BK (w : World) (v : Value) (K : List Bool) : Prop :=
 ∃ A c, v = .slice A K.length c ∧ (K = [] ∨ ∃ b off, A = some ⟨b, off, none⟩ ∧ b < w.heap.size ∧ ∀ j (h : j < K.length), w.cell? ⟨b, off + j, none⟩ = some (.bool K[j]))
structure Deed where
 kind : Nat
 c : List UInt8
 keep : List Bool
 fuse : Nat
def DeedAt (w : World) (b o : Nat) (x : Deed) : Prop :=
 w.cell? ⟨b, o, none⟩ = some (.int .u8 (x.kind : Int)) ∧ (∃ u, w.cell? ⟨b, o + 1, none⟩ = some u ∧ RB w u x.c) ∧ (∃ u, w.cell? ⟨b, o + 2, none⟩ = some u ∧ BK w u x.keep) ∧ w.cell? ⟨b, o + 3, none⟩ = some (.int .u8 (x.fuse : Int)) ∧
  x.kind ≤ 255 ∧ x.fuse ≤ 255 ∧ x.c.length ≤ 140737488351232 ∧ x.keep.length ≤ 140737488351232
def DS (w : World) (v : Value) (l : List Deed) : Prop :=
 ∃ A c, v = .slice A l.length c ∧ l.length ≤ 140737488351232 ∧ (l = [] ∨ ∃ b off, A = some ⟨b, off, none⟩ ∧ b < w.heap.size ∧ ∀ j (h : j < l.length), DeedAt w b (off + j * 4) l[j])
theorem BK.below {w w' : World} {v : Value} {K : List Bool} (h : BK w v K) (hb : Below w.heap.size w w') : BK w' v K := by
 obtain ⟨A, c, rfl, h1⟩ := h
 refine ⟨A, c, rfl, ?_⟩
 rcases h1 with h1 | ⟨b, off, rfl, hbb, hc⟩
 ·exact .inl h1
 ·exact .inr ⟨b, off, rfl, Nat.lt_of_lt_of_le hbb hb.size, fun j hj => (hb.cell (p := ⟨b, off + j, none⟩) hbb).trans (hc j hj)⟩
theorem BK.kb {w : World} {v : Value} {K : List Bool} (h : BK w v K) {D : Nat → Prop} (hD : ∀ k, D k → w.heap.size ≤ k) : KB D w v K := by
 obtain ⟨A, c, rfl, h1⟩ := h
 exact ⟨A, c, rfl, h1.imp id fun ⟨b, off, e, hb, hc⟩ => ⟨b, off, e, hb, fun hd => by have := hD b hd; omega, hc⟩⟩
theorem DS.below {w w' : World} {v : Value} {l : List Deed} (h : DS w v l) (hb : Below w.heap.size w w') : DS w' v l := by
 obtain ⟨A, c, rfl, h1, h2⟩ := h
 refine ⟨A, c, rfl, h1, ?_⟩
 rcases h2 with h2 | ⟨b, off, rfl, hbb, hd⟩
 ·exact .inl h2
 ·refine .inr ⟨b, off, rfl, Nat.lt_of_lt_of_le hbb hb.size, fun j hj => ?_⟩
  obtain ⟨d0, ⟨u1, d2, d3⟩, ⟨u2, d4, d5⟩, d6, d7⟩ := hd j hj
  have e : ∀ o, w'.cell? ⟨b, o, none⟩ = w.cell? ⟨b, o, none⟩ := fun o => hb.cell (p := ⟨b, o, none⟩) hbb
  exact ⟨(e _).trans d0, ⟨u1, (e _).trans d2, d3.below hb⟩, ⟨u2, (e _).trans d4, d5.below hb⟩, (e _).trans d6, d7⟩
theorem DS.at_ {w : World} {A : Option Addr} {c m k : Nat} {l : List Deed} (h : DS w (.slice A m c) l) (hm : m = l.length) (hk : k < m) :
  ∃ b off x, A = some ⟨b, off, none⟩ ∧ b < w.heap.size ∧ l[k]? = some x ∧ DeedAt w b (off + k * 4) x := by
 subst hm
 obtain ⟨A', c', he, _, h2⟩ := h
 injection he with he _ _
 subst he
 rcases h2 with h2 | ⟨b, off, rfl, hb, hd⟩
 ·rw [h2] at hk; cases hk
 ·exact ⟨b, off, _, rfl, hb, List.getElem?_eq_getElem hk, hd k hk⟩
end Go.Proofs.Ytmbkaedhllfoeaa
namespace Go.Proofs.Ytmbkaedhllfoeaa
open Go.RowKit Go.Rst Go.Dv Go.Crc Go.Str Go.Pg
theorem fb_lit1 {w : World} {b0 k : Nat} (hb : b0 ≤ w.heap.size) (hk : k ≤ 255) : FB 5 (w.alloc (.cells #[.int .u8 (k : Int)] 5)) b0 (.slice (some ⟨w.heap.size, 0, none⟩) 1 1) [UInt8.ofNat k] := by
 refine .inr ⟨w.heap.size, 1, _, _, rfl, hb, heap_alloc_new w _, Nat.le_refl _, by unfold maxLen; omega, ?_⟩
 have h := bv_nat (n := k) (by omega)
 simp [bvs, ← h]
end Go.Proofs.Ytmbkaedhllfoeaa
namespace Go.Proofs.Ytmbkaedhllfoeaa
open Go.RowKit Go.Rst Go.Dv Go.Crc Go.Str Go.Pg
theorem fb_one_ {W w : World} {p b0 : Nat} (hp : p ≤ 255) (hb : b0 ≤ W.heap.size) (h : w = W.alloc (.cells #[.int .u8 (p : Int)] 5) ∨ w = (W.alloc (.cells #[.int .u8 (p : Int)] 5)).drew) :
  FB 5 w b0 (.slice (some ⟨W.heap.size, 0, none⟩) 1 1) [UInt8.ofNat p] := by
 rcases h with rfl | rfl
 ·exact fb_lit1 hb hp
 ·exact FB.drew (fb_lit1 hb hp)
theorem fb_two_ {W w : World} {p q b0 : Nat} (hp : p ≤ 255) (hq : q ≤ 255) (hb : b0 ≤ W.heap.size) (h : w = W.alloc (.cells #[.int .u8 (p : Int), .int .u8 (q : Int)] 5) ∨ w = (W.alloc (.cells #[.int .u8 (p : Int), .int .u8 (q : Int)] 5)).drew) :
  FB 5 w b0 (.slice (some ⟨W.heap.size, 0, none⟩) 2 2) [UInt8.ofNat p, UInt8.ofNat q] := by
 have e : #[Value.int .u8 (p : Int), .int .u8 (q : Int)] = (bvs [UInt8.ofNat p, UInt8.ofNat q]).toArray := by
  have h1 := bv_nat (n := p) (by omega)
  have h2 := bv_nat (n := q) (by omega)
  simp [bvs, ← h1, ← h2]
 have hf : FB 5 (W.alloc (.cells #[.int .u8 (p : Int), .int .u8 (q : Int)] 5)) b0 (.slice (some ⟨W.heap.size, 0, none⟩) 2 2) [UInt8.ofNat p, UInt8.ofNat q] := fb_lit hb e rfl (by omega)
 rcases h with rfl | rfl
 ·exact hf
 ·exact FB.drew hf
end Go.Proofs.Ytmbkaedhllfoeaa
