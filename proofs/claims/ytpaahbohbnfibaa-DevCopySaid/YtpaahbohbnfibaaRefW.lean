/-
  The contract of the document's own Write.
-/
import Derived.Test.YtpaahbohbnfibaaRefS
namespace Go.Proofs.Ytpaahbohbnfibaa
open Go.RowKit Go.Rst Go.Dv
/-- The first k bytes, and noughts behind them. -/
def fillP (b : List UInt8) (k : Nat) : List UInt8 := b.take k ++ List.replicate (64 - k) 0
theorem fillP_length {b : List UInt8} {k : Nat} (h : k ≤ b.length) (h2 : b.length ≤ 64) : (fillP b k).length = 64 := by simp [fillP]; omega
theorem fillP_zero (b : List UInt8) : fillP b 0 = List.replicate 64 0 := by simp [fillP]
theorem fillP_all (b : List UInt8) : fillP b b.length = pad b := by simp [fillP, pad]
theorem fillP_set {b : List UInt8} {k : Nat} (h : k < b.length) (h2 : b.length ≤ 64) : (bvs (fillP b k)).set k (bv b[k]) = bvs (fillP b (k + 1)) := by
  have e : (fillP b k).set k b[k] = fillP b (k + 1) := by
    unfold fillP
    have hk : (b.take k).length = k := by simp; omega
    rw [show 64 - k = (64 - (k + 1)) + 1 from by omega, List.replicate_succ, List.set_append, if_neg (by omega), hk, Nat.sub_self, List.set_cons_zero, List.take_succ_eq_append_getElem h, List.append_assoc]
    rfl
  rw [← e]
  simp [bvs, List.map_set]
set_option maxRecDepth 100000 in
set_option maxHeartbeats 2000000 in
theorem refwrite_no {A : Nat → Prop} {w : World} {tv bvv : Value} {s : Sim} (i : Int) (b : List UInt8) (h : TR A w tv s) (hb : RB w bvv b) (hh : s.has i = false ∨ (s.has i = true ∧ 64 < b.length)) :
    Calls Try.prog 29 #[tv, .int .i64 i, bvv] w (Made2 A w (s.write i b) (.int .i64 (s.wrote i b))) := by
  obtain ⟨vS, vL, lf, rfl, hS, hL, hlf⟩ := h
  obtain ⟨aS, cS, rfl, hcS⟩ := hS.shape
  obtain ⟨aL, cL, rfl, _⟩ := hL.shape
  obtain ⟨aB, cB, rfl, _, hcB, _⟩ := hb
  unfold maxLen at hcB
  have HS := Lib.hid hS
  have HL := Lib.hid hL
  have HLF := Lib.hid hlf
  clear hS hL hlf
  obtain ⟨f0, hf0⟩ : ∃ f0, f0 = s.fuse.isSome := ⟨_, rfl⟩
  rw [← hf0]
  have HF := Lib.hid hf0.symm
  clear hf0
  obtain ⟨m, hm⟩ : ∃ m, m = b.length := ⟨_, rfl⟩
  rcases hh with hh | ⟨hh, hl⟩
  · have e1 : s.write i b = s := by simp [Sim.write, hh]
    have e2 : s.wrote i b = 20 := by simp [Sim.wrote, hh]
    rw [e1, e2, ← hm]
    have hcase : (decide (i < 0) = true) ∨ (decide (i < 0) = false ∧ (s.firm.length : Int) ≤ i) := by
      by_cases h1 : i < 0
      · exact .inl (by simpa using h1)
      · refine .inr ⟨by simpa using h1, ?_⟩
        rcases Int.lt_or_le i s.firm.length with h | h
        · have := Sim.has_iff.2 ⟨show 0 ≤ i by omega, h⟩
          rw [hh] at this; cases this
        · exact h
    clear e1 e2 hh hm
    rcases hcase with h1 | ⟨h1, h2⟩
    all_goals
      go_enter Try.func29, Try.ntmps29
      go_wp2
      exact bodyPost_ret (v := .tuple #[.agg #[.slice aS s.firm.length cS, .slice aL s.loose.length cL, .int .i64 (s.nw : Int), .int .i64 (s.nf : Int), .bool f0, .int .i64 lf], .int .i64 20]) (by simp [results, Try.results29, go_sem]) rfl
        (Made2.mk HS.out HL.out HF.out HLF.out (below2 w _ _))
  · have e1 : s.write i b = s := by simp [Sim.write]; omega
    have e2 : s.wrote i b = 3 := by simp [Sim.wrote, hh, hl]
    rw [e1, e2, ← hm]
    have hi := Sim.has_iff.1 hh
    have h1 : decide (i < 0) = false := by simp; omega
    have h2 : ¬ (s.firm.length : Int) ≤ i := by omega
    have h3 : 64 < (m : Int) := by omega
    clear e1 e2 hh hm hl hi
    go_enter Try.func29, Try.ntmps29
    go_wp2
    exact bodyPost_ret (v := .tuple #[.agg #[.slice aS s.firm.length cS, .slice aL s.loose.length cL, .int .i64 (s.nw : Int), .int .i64 (s.nf : Int), .bool f0, .int .i64 lf], .int .i64 3]) (by simp [results, Try.results29, go_sem]) rfl
      (Made2.mk HS.out HL.out HF.out HLF.out (below2 w _ _))
set_option maxRecDepth 100000 in
set_option maxHeartbeats 2000000 in
theorem refwrite_yes {A : Nat → Prop} {w : World} {tv bvv : Value} {s : Sim} (i : Nat) (b : List UInt8) (h : TR A w tv s) (hok : OK s) (hA : ∀ k, A k → k < w.heap.size) (hLl : s.nw ≤ 100000) (hb : RB w bvv b) (hi : i < s.firm.length) (hl : b.length ≤ 64) :
    Calls Try.prog 29 #[tv, .int .i64 (i : Int), bvv] w (Made2 A w (s.write i b) (.int .i64 0)) := by
  have HT := Lib.hid h
  have HRB := Lib.hid hb
  obtain ⟨vS, vL, lf, rfl, hS, hL, hlf⟩ := h
  obtain ⟨aS, cS, rfl, hcS⟩ := hS.shape
  obtain ⟨aL, cL, rfl, _⟩ := hL.shape
  obtain ⟨aB, cB, rfl, hcB0, hcB, hB3⟩ := hb
  unfold maxLen at hcB
  have HO := Lib.hid hok
  have HA := Lib.hid hA
  obtain ⟨m, hm⟩ : ∃ m, m = b.length := ⟨_, rfl⟩
  rw [← hm] at hcB0 hl HRB ⊢
  have HM := Lib.hid hm
  have HB3 := Lib.hid hB3
  have hh : s.has i = true := Sim.has_iff.2 ⟨by omega, by omega⟩
  have HH := Lib.hid hh
  clear hS hL hlf hok hA hm hB3 hh
  obtain ⟨f0, hf0⟩ : ∃ f0, f0 = s.fuse.isSome := ⟨_, rfl⟩
  rw [← hf0] at HT ⊢
  clear hf0
  have h1 : decide ((i : Int) < 0) = false := by simp
  have h2 : ¬ (s.firm.length : Int) ≤ (i : Int) := by omega
  have h3 : (m : Int) ≤ 64 := by omega
  go_enter Try.func29, Try.ntmps29
  go_wp2_with fail
  go_at_call 39
  refine (burn_any (A := fun k => A k ∨ k = w.heap.size ∨ k = w.heap.size + 1) ((HT.out.fr (D := fun _ => False) (Fr.of_below (below2 w _ _)) (fun _ h => h.elim) (fun k hk => by
    rcases hk with hk | hk | hk
    · exact .inl hk
    · exact .inr (by omega)
    · exact .inr (by omega)))) HO.out.u).mono ?_
  rintro e w1 ⟨tv1, rfl, ht, hb⟩
  obtain ⟨W1, hW1⟩ : ∃ W1, W1 = ((w.alloc (Obj.cells #[Value.slice aS s.firm.length cS, Value.slice aL s.loose.length cL, Value.int IntKind.i64 ↑s.nw, Value.int IntKind.i64 ↑s.nf, Value.bool f0, Value.int IntKind.i64 lf] 38)).alloc (Obj.cells #[Value.slice none 0 0, Value.slice none 0 0, Value.int IntKind.i64 0, Value.int IntKind.i64 0, Value.bool false, Value.int IntKind.i64 0] 38)) := ⟨_, rfl⟩
  rw [← hW1] at hb
  have hb2 : Blk W1 (w.heap.size + 1) 38 #[Value.slice none 0 0, Value.slice none 0 0, Value.int IntKind.i64 0, Value.int IntKind.i64 0, Value.bool false, Value.int IntKind.i64 0] := by rw [hW1]; exact heap_alloc2_new w _ _
  have hs1 : W1.heap.size = w.heap.size + 1 + 1 := by rw [hW1]; simp
  have hbw : Below w.heap.size w w1 := by
    have : Below w.heap.size w W1 := by rw [hW1]; exact below2 w _ _
    exact this.trans (hb.mono (by omega))
  obtain ⟨g2, hg2⟩ : ∃ g2, g2 = w.heap.size := ⟨_, rfl⟩
  rw [← hg2] at hb2 hs1 ht ⊢
  have hs2 : g2 + 1 + 1 ≤ w1.heap.size := by have := hb.size; omega
  have HB2 := Lib.hid (hb2.below hb (by omega))
  have HBW := Lib.hid hbw
  have HG2 := Lib.hid hg2
  have HS2 := Lib.hid hs2
  clear hW1 hb hb2 hs1 hbw hg2 hs2
  cases hg : s.goes with
  | false =>
    rw [hg] at ht
    have e : s.write i b = s := by simp [Sim.write, hg]
    obtain ⟨vS1, vL1, lf1, rfl, hS1, hL1, hlf1⟩ := id ht
    obtain ⟨aS1, cS1, rfl, _⟩ := hS1.shape
    obtain ⟨aL1, cL1, rfl, _⟩ := hL1.shape
    have d0 : w1.cell? ⟨g2 + 1, 0, none⟩ = some (.slice none 0 0) := HB2.out.cell 0
    have d1 : w1.cell? ⟨g2 + 1, 1, none⟩ = some (.slice none 0 0) := HB2.out.cell 1
    have d2 : w1.cell? ⟨g2 + 1, 2, none⟩ = some (.int .i64 0) := HB2.out.cell 2
    have d3 : w1.cell? ⟨g2 + 1, 3, none⟩ = some (.int .i64 0) := HB2.out.cell 3
    have d4 : w1.cell? ⟨g2 + 1, 4, none⟩ = some (.bool false) := HB2.out.cell 4
    have d5 : w1.cell? ⟨g2 + 1, 5, none⟩ = some (.int .i64 0) := HB2.out.cell 5
    have df : ∀ i, w1.frozen? ⟨g2 + 1, i, none⟩ = false := HB2.out.frozen
    have hlt := HB2.out.lt
    have HTR := Lib.hid ht
    have HE := Lib.hid e
    clear ht hg e hS1 hL1 hlf1
    obtain ⟨f1, hf1⟩ : ∃ f1, f1 = s.fuse.isSome := ⟨_, rfl⟩
    simp only [Bool.false_eq_true, if_false] at HTR ⊢
    rw [← hf1] at HTR ⊢
    clear hf1
    go_wp2
    have hblk := (blk_six HB2.out (.slice aS1 s.firm.length cS1) (.slice aL1 s.loose.length cL1) (.int .i64 (s.nw : Int)) (.int .i64 (s.nf : Int)) (.bool f1) (.int .i64 lf1)).alloc (Obj.cells #[Value.slice aS1 s.firm.length cS1, Value.slice aL1 s.loose.length cL1, Value.int IntKind.i64 ↑s.nw, Value.int IntKind.i64 ↑s.nf, Value.bool f1, Value.int IntKind.i64 lf1] 38)
    have hfr := (fr_six (Fr.refl (fun k => k = g2 + 1) w1) (.inl rfl) (.slice aS1 s.firm.length cS1) (.slice aL1 s.loose.length cL1) (.int .i64 (s.nw : Int)) (.int .i64 (s.nf : Int)) (.bool f1) (.int .i64 lf1)).alloc (Obj.cells #[Value.slice aS1 s.firm.length cS1, Value.slice aL1 s.loose.length cL1, Value.int IntKind.i64 ↑s.nw, Value.int IntKind.i64 ↑s.nf, Value.bool f1, Value.int IntKind.i64 lf1] 38)
    refine bodyPost_ret (v := .tuple #[.agg #[.slice aS1 s.firm.length cS1, .slice aL1 s.loose.length cL1, .int .i64 (s.nw : Int), .int .i64 (s.nf : Int), .bool f1, .int .i64 lf1], .int .i64 0]) (by
      simp [results, Try.results29, go_sem, hblk.cell 0, hblk.cell 1, hblk.cell 2, hblk.cell 3, hblk.cell 4, hblk.cell 5]) rfl ?_
    rw [HE.out]
    exact ⟨_, rfl, HTR.out.fr hfr (fun k hk => .inr (.inr hk)) (fun k hk => .inl (.inl hk)), HBW.out.trans (hfr.below (fun k hk => by have := HG2.out; omega) HBW.out.size)⟩
  | true =>
    rw [hg] at ht
    have e : s.write i b = s.put i b := by
      unfold Sim.write
      rw [HH.out, hg, ← HM.out, decide_eq_true hl]
      rfl
    have ht1 : TR (fun k => A k ∨ k = g2 ∨ k = g2 + 1) w1 tv1 s.burnt := ht
    obtain ⟨vS1, vL1, lf1, rfl, hS1, hL1, hlf1⟩ := id ht1
    obtain ⟨aS1, cS1, rfl, _⟩ := hS1.shape
    obtain ⟨aL1, cL1, rfl, _⟩ := hL1.shape
    have HS1 := Lib.hid (show SR (fun k => A k ∨ k = g2 ∨ k = g2 + 1) w1 (.slice aS1 s.firm.length cS1) s.firm from hS1)
    have HL1 := Lib.hid (show LR (fun k => A k ∨ k = g2 ∨ k = g2 + 1) w1 (.slice aL1 s.loose.length cL1) s.loose from hL1)
    have HE := Lib.hid e
    have HLF := Lib.hid hlf1
    have e1 : s.burnt.firm.length = s.firm.length := rfl
    have e2 : s.burnt.loose.length = s.loose.length := rfl
    have e3 : s.burnt.nw = s.nw := rfl
    have e4 : s.burnt.nf = s.nf := rfl
    obtain ⟨f1, hf1⟩ : ∃ f1, f1 = s.burnt.fuse.isSome := ⟨_, rfl⟩
    rw [e1, e2, e3, e4, ← hf1]
    have HF1 := Lib.hid hf1
    have hl9 : s.loose.length ≤ 100000 := Nat.le_trans HO.out.w hLl
    clear ht ht1 hg e hS1 hL1 hlf1 hf1 e1 e2 e3 e4
    obtain ⟨i5, hi5, hz5, hs5, hb5⟩ := info_parts info5
    have HI5 := Lib.hid hi5
    have HZ5 := Lib.hid hz5
    have HS5 := Lib.hid hs5
    have HB5 := Lib.hid (show i5.bytes * 64 ≤ 281474976710656 by rw [hb5]; omega)
    have HM5 := Lib.hid (show 64 ≤ maxLen by unfold maxLen; omega)
    clear hi5 hz5 hs5 hb5
    go_wp2_with (refine wpList_make_full _ rfl (.const (.int .i64 64)) (.const (.int .i64 64)) 28 rfl 0 5 i5 (.int .u8 0) 1 Try.underlying28 HI5.out HZ5.out HS5.out .i64 .i64 _ _ 64 rfl rfl rfl rfl HB5.out HM5.out (Nat.zero_le _) ?_)
    intro w4 hownx hgrow
    obtain ⟨g3, hg3⟩ : ∃ g3, g3 = w1.heap.size := ⟨_, rfl⟩
    rw [← hg3] at hownx ⊢
    have hx0 : (madeCells #[Value.int .u8 0] 64).toList = bvs (fillP b 0) := by
      rw [toList_madeCells_one, fillP_zero]
      simp [bvs, bv]
    rw [hx0] at hownx
    have hb3 : Blk w4 g3 38 #[Value.slice aS1 s.firm.length cS1, Value.slice aL1 s.loose.length cL1, Value.int IntKind.i64 ↑s.nw, Value.int IntKind.i64 ↑s.nf, Value.bool f1, Value.int IntKind.i64 lf1] := by
      have h9 : Blk (w1.alloc (Obj.cells #[Value.slice aS1 s.firm.length cS1, Value.slice aL1 s.loose.length cL1, Value.int IntKind.i64 ↑s.nw, Value.int IntKind.i64 ↑s.nf, Value.bool f1, Value.int IntKind.i64 lf1] 38)) g3 38 #[Value.slice aS1 s.firm.length cS1, Value.slice aL1 s.loose.length cL1, Value.int IntKind.i64 ↑s.nw, Value.int IntKind.i64 ↑s.nf, Value.bool f1, Value.int IntKind.i64 lf1] := by rw [hg3]; exact heap_alloc_new w1 _
      exact h9.same (hgrow.block g3 h9.lt (by simp))
    have hb14 : Below w1.heap.size w1 w4 := ((Below.refl _ _).alloc (Nat.le_refl _) _).grown hgrow (by simp) (fun k hk => by cases hk)
    have hgx := (hownx.lt (g3 + 1) rfl).2
    have HB3' := Lib.hid hb3
    have HB14 := Lib.hid hb14
    have HG3 := Lib.hid hg3
    have HOX := Lib.hid hownx
    have HGX := Lib.hid hgx
    clear hownx hgrow hx0 hb3 hb14 hg3 hgx
    go_wp2
    go_loopw [11] (fun q wr => ∃ k : Nat, k ≤ m ∧ q = .int .i64 k ∧ wr.ownsRow 0 5 1 (.slice (some ⟨g3 + 1, 0, none⟩) 64 64) 64 (bvs (fillP b k)) ∧ Below (g3 + 1) w4 wr) (fun q _ => m - (intOf q).toNat)
    case atStart => exact ⟨0, Nat.zero_le _, rfl, HOX.out, Below.refl _ _⟩
    case round =>
      obtain ⟨k, hk, rfl, hown, hbel⟩ := hrel
      by_cases hlt : k < m
      · have hltb : k < b.length := by rw [← HM.out]; exact hlt
        obtain ⟨bb, off, hA, hbb, hc⟩ : ∃ bb off, aB = some ⟨bb, off, none⟩ ∧ bb < w.heap.size ∧ ∀ j (h : j < b.length), w.cell? ⟨bb, off + j, none⟩ = some (bv b[j]) := by
          rcases HB3.out with h9 | ⟨bb, off, h4, h5, h6⟩
          · rw [h9] at hltb; simp at hltb
          · exact ⟨bb, off, h4, h5, h6⟩
        subst hA
        have hck := hc k hltb
        have hbr : Below w.heap.size w wr := (HBW.out.trans (HB14.out.mono HBW.out.size)).trans (hbel.mono (by have := HG2.out; have := HG3.out; have := HS2.out; omega))
        have hcr := (hbr.cell (p := ⟨bb, off + k, none⟩) hbb).trans hck
        have hl64 := fillP_length (b := b) (k := k) (by omega) (by rw [← HM.out]; exact hl)
        have hcx := hown.cellAt k (by omega)
        rw [List.getElem?_eq_getElem (show k < (bvs (fillP b k)).length by rw [bvs_length, hl64]; omega)] at hcx
        obtain ⟨y, hy⟩ : ∃ y, wr.cell? ⟨g3 + 1, k, none⟩ = some y := ⟨_, hcx⟩
        have hfx := hown.frozenAt k
        have hset := fillP_set hltb (by rw [← HM.out]; exact hl)
        unfold bv at hcr
        generalize b[k] = z at hcr hset
        have HSET := Lib.hid hset
        have HOw := Lib.hid hown
        have HBl := Lib.hid hbel
        have hk0 : (0 : Int) ≤ (k : Int) := by omega
        have hk1 : (k : Int) < (m : Int) := by omega
        have hk2 : (k : Int) < 64 := by omega
        clear hown hbel hc hck hbr hcx hset hltb hl64
        go_wp2
        go_roundw
        case rel =>
          refine ⟨k + 1, by omega, by go_num, ?_, HBl.out.setCell (p := ⟨g3 + 1, k, none⟩) (Nat.le_refl _) _⟩
          have h9 := (HOw.out.stored k (bv z)).1
          rw [HSET.out] at h9
          exact h9
        case measure => simp [intOf]; omega
      · obtain rfl : k = m := by omega
        have hbr : Below w1.heap.size w1 wr := HB14.out.trans (hbel.mono (by have := HG3.out; omega))
        have hL2 := HL1.out.fr (D := fun _ => False) (A' := fun k => (A k ∨ k = g2 ∨ k = g2 + 1) ∨ k = g3) (Fr.of_below hbr) (fun _ h => h.elim) (fun k hk => by
          rcases hk with hk | hk
          · exact .inl hk
          · exact .inr (by have := HG3.out; omega))
        obtain ⟨ps, hp1, hp2, hp3⟩ := hL2
        have hsrc := hp2.src (tx := 36) (e' := 84) (size := 2) (by rw [pcs_length]; rw [← hp1]; simp) (by decide) Try.underlying36 (pcs_one hp3)
        have HP1 := Lib.hid hp1
        have HP3 := Lib.hid hp3
        have HSRC := Lib.hid hsrc
        have HBr := Lib.hid hbr
        have HOw := Lib.hid hown
        have HB3r := Lib.hid (HB3'.out.below hbel (by omega))
        have HB2r := Lib.hid (HB2.out.below hbr (by have := HS2.out; omega))
        have hc1 : wr.cell? ⟨g3, 1, none⟩ = some (.slice aL1 s.loose.length cL1) := HB3r.out.cell 1
        have HSZ := Lib.hid (show g3 + 1 < wr.heap.size by have := hbel.size; have := HGX.out; omega)
        clear hown hbel hbr hp1 hp2 hp3 hsrc
        go_wp2_with (at_builtin; refine wpList_own rfl (.tmp 49) (.tmp 51) 36 36 rfl wr.heap.size 84 (.agg #[.int .i64 0, .slice none 0 0]) 2 32 Try.underlying36 info84 rfl rfl (World.ownsRow_nil _ _ _ _) rfl HSRC.out (Below.refl wr.heap.size _) (Nat.le_refl _) (by unfold maxLen; omega) (by omega) (Nat.le_refl _) ?_)
        intro vl w5 hownl hbel5 _
        have HO5 := Lib.hid hownl
        have HBE5 := Lib.hid hbel5
        clear hc1 hownl hbel5
        go_wp2_with (at_builtin; refine wpList_own rfl (.tmp 53) (.tmp 57) 36 36 rfl wr.heap.size 84 (.agg #[.int .i64 0, .slice none 0 0]) 2 32 Try.underlying36 info84 rfl rfl (HO5.out.alloc _) rfl (src_two w5 rfl Try.underlying36 84 _ _ rfl rfl) (HBE5.out.alloc HBE5.out.size _) (Nat.le_refl _) (by unfold maxLen; omega) (by omega) (by have := HBE5.out.size; simp; omega) ?_)
        intro v6 w6 hown6 hbel6 _
        obtain ⟨a6, c6, rfl, _⟩ := own_shape hown6
        have HO6 := Lib.hid hown6
        have HBE6 := Lib.hid hbel6
        have HB36 := Lib.hid (HB3r.out.below hbel6 HB3r.out.lt)
        have HB26 := Lib.hid (HB2r.out.below hbel6 HB2r.out.lt)
        have c0 : w6.cell? ⟨g3, 0, none⟩ = some (.slice aS1 s.firm.length cS1) := HB36.out.cell 0
        have c1 : w6.cell? ⟨g3, 1, none⟩ = some (.slice aL1 s.loose.length cL1) := HB36.out.cell 1
        have c2 : w6.cell? ⟨g3, 2, none⟩ = some (.int .i64 (s.nw : Int)) := HB36.out.cell 2
        have c3 : w6.cell? ⟨g3, 3, none⟩ = some (.int .i64 (s.nf : Int)) := HB36.out.cell 3
        have c4 : w6.cell? ⟨g3, 4, none⟩ = some (.bool f1) := HB36.out.cell 4
        have c5 : w6.cell? ⟨g3, 5, none⟩ = some (.int .i64 lf1) := HB36.out.cell 5
        have cf : ∀ i, w6.frozen? ⟨g3, i, none⟩ = false := HB36.out.frozen
        have d0 : w6.cell? ⟨g2 + 1, 0, none⟩ = some (.slice none 0 0) := HB26.out.cell 0
        have d1 : w6.cell? ⟨g2 + 1, 1, none⟩ = some (.slice none 0 0) := HB26.out.cell 1
        have d2 : w6.cell? ⟨g2 + 1, 2, none⟩ = some (.int .i64 0) := HB26.out.cell 2
        have d3 : w6.cell? ⟨g2 + 1, 3, none⟩ = some (.int .i64 0) := HB26.out.cell 3
        have d4 : w6.cell? ⟨g2 + 1, 4, none⟩ = some (.bool false) := HB26.out.cell 4
        have d5 : w6.cell? ⟨g2 + 1, 5, none⟩ = some (.int .i64 0) := HB26.out.cell 5
        have df : ∀ i, w6.frozen? ⟨g2 + 1, i, none⟩ = false := HB26.out.frozen
        have n1 : g3 ≠ g2 + 1 := by have := HG3.out; have := HS2.out; omega
        clear hown6 hbel6
        go_wp2
        obtain ⟨W, hW⟩ : ∃ W, W = ((((((((w6.setCell ⟨g3, 1, none⟩ (Value.slice a6 (s.loose.length + 1) c6)).setCell ⟨g3, 2, none⟩ (Value.int IntKind.i64 (↑s.nw + 1))).setCell ⟨g2 + 1, 0, none⟩ (Value.slice aS1 s.firm.length cS1)).setCell ⟨g2 + 1, 1, none⟩ (Value.slice a6 (s.loose.length + 1) c6)).setCell ⟨g2 + 1, 2, none⟩ (Value.int IntKind.i64 (↑s.nw + 1))).setCell ⟨g2 + 1, 3, none⟩ (Value.int IntKind.i64 ↑s.nf)).setCell ⟨g2 + 1, 4, none⟩ (Value.bool f1)).setCell ⟨g2 + 1, 5, none⟩ (Value.int IntKind.i64 lf1)) := ⟨_, rfl⟩
        rw [← hW]
        have hblk : Blk W (g2 + 1) 38 #[.slice aS1 s.firm.length cS1, .slice a6 (s.loose.length + 1) c6, .int .i64 ((s.nw : Int) + 1), .int .i64 (s.nf : Int), .bool f1, .int .i64 lf1] := by
          rw [hW]
          exact blk_six ((HB26.out.far (p := ⟨g3, 1, none⟩) (fun e => n1 e.symm) _).far (p := ⟨g3, 2, none⟩) (fun e => n1 e.symm) _) _ _ _ _ _ _
        refine bodyPost_ret (v := .tuple #[.agg #[.slice aS1 s.firm.length cS1, .slice a6 (s.loose.length + 1) c6, .int .i64 ((s.nw : Int) + 1), .int .i64 (s.nf : Int), .bool f1, .int .i64 lf1], .int .i64 0]) (by
          have e0 : W.cell? ⟨g2 + 1, 0, none⟩ = some (.slice aS1 s.firm.length cS1) := hblk.cell 0
          have e1 : W.cell? ⟨g2 + 1, 1, none⟩ = some (.slice a6 (s.loose.length + 1) c6) := hblk.cell 1
          have e2 : W.cell? ⟨g2 + 1, 2, none⟩ = some (.int .i64 ((s.nw : Int) + 1)) := hblk.cell 2
          have e3 : W.cell? ⟨g2 + 1, 3, none⟩ = some (.int .i64 (s.nf : Int)) := hblk.cell 3
          have e4 : W.cell? ⟨g2 + 1, 4, none⟩ = some (.bool f1) := hblk.cell 4
          have e5 : W.cell? ⟨g2 + 1, 5, none⟩ = some (.int .i64 lf1) := hblk.cell 5
          simp [results, Try.results29, go_sem, e0, e1, e2, e3, e4, e5]) rfl ?_
        rw [HE.out]
        have q1 := HG2.out
        have q2 := HG3.out
        have q3 := HS2.out
        have q4 := HSZ.out
        have hfr : ∀ (D : Nat → Prop) (a : World), Fr D a w6 → (D g3 ∨ a.heap.size ≤ g3) → (D (g2 + 1) ∨ a.heap.size ≤ g2 + 1) → Fr D a W := by
          intro D a h0 h1 h2
          rw [hW]
          exact fr_six ((h0.setCell (p := ⟨g3, 1, none⟩) h1 _).setCell (p := ⟨g3, 2, none⟩) h1 _) h2 _ _ _ _ _ _
        have hb1r : Below w1.heap.size w1 w6 := HBr.out.trans (HBE6.out.mono HBr.out.size)
        have hF1 : Fr (fun k => k = g2 + 1) w1 W := hfr _ _ (Fr.of_below hb1r) (.inr (by omega)) (.inl rfl)
        have hFr : Fr (fun k => k = g3 ∨ k = g2 + 1) wr W := hfr _ _ (Fr.of_below HBE6.out) (.inl (.inl rfl)) (.inl (.inr rfl))
        have hF6 : Fr (fun k => k = g3 ∨ k = g2 + 1) w6 W := hfr _ _ (Fr.refl _ _) (.inl (.inl rfl)) (.inl (.inr rfl))
        have hbW : Below w.heap.size w W := HBW.out.trans (hF1.below (fun k hk => by omega) HBW.out.size)
        have hSf := HS1.out.fr (A' := A) hF1 (fun k hk => .inr (.inr hk)) (fun k hk => .inl (.inl hk))
        have hrow : W.ownsRow wr.heap.size 84 2 (.slice a6 (s.loose.length + 1) c6) (s.loose.length + 1) (pcs ps ++ [.int .i64 (i : Int), .slice (some ⟨g3 + 1, 0, none⟩) 64 64]) :=
          own_same HO6.out (fun k hk => by
            have h9 := HO6.out.lt k hk
            exact hF6.block k h9.2 (fun hd => by rcases hd with hd | hd <;> omega))
        have hx6 := own_below HOw.out HBE6.out
        have hxW : W.ownsRow 0 5 1 (.slice (some ⟨g3 + 1, 0, none⟩) 64 64) 64 (bvs (pad b)) := by
          have e : fillP b k = pad b := by rw [HM.out]; exact fillP_all b
          rw [e] at hx6
          exact own_same hx6 (fun j hj => by
            have h9 := hx6.lt j hj
            have h8 : g3 + 1 = j := by simpa [Value.ownBlock] using hj
            exact hF6.block j h9.2 (fun hd => by rcases hd with hd | hd <;> omega))
        have hpl : (pad b).length = 64 := pad_length (by rw [← HM.out]; exact hl)
        have hRA : RA A W (.slice (some ⟨g3 + 1, 0, none⟩) 64 64) (pad b) := by
          refine ⟨RB.own (base := 0) (e := 5) (by rw [hpl]; exact hxW), fun _ j hj ha => ?_⟩
          have h8 : g3 + 1 = j := by simpa [Value.ownBlock] using hj
          have := HA.out _ ha
          omega
        refine ⟨_, rfl, ⟨.slice aS1 s.firm.length cS1, .slice a6 (s.loose.length + 1) c6, lf1, ?_, hSf, ?_, HLF.out⟩, hbW⟩
        · rw [HF1.out]
          rfl
        · refine ⟨ps ++ [((i, pad b), .slice (some ⟨g3 + 1, 0, none⟩) 64 64)], ?_, ?_, fun q hq => ?_⟩
          · rw [List.map_append, HP1.out]
            rfl
          · have e9 : (s.put i b).loose.length = s.loose.length + 1 := by simp [Sim.put]
            rw [pcs_append, e9]
            exact Row.own (A := A) hrow (fun k hk _ ha => by have := HA.out k ha; omega)
          · rcases List.mem_append.1 hq with hq | hq
            · exact (HP3.out q hq).fr hFr (fun k hk => by rcases hk with hk | hk; exact .inr hk; exact .inl (.inr (.inr hk))) (fun k hk => .inl (.inl (.inl hk)))
            · simp at hq
              subst hq
              exact hRA
/-- Write, of the document's own. -/
theorem refwrite_any {A : Nat → Prop} {w : World} {tv bvv : Value} {s : Sim} (i : Int) (b : List UInt8) (h : TR A w tv s) (hok : OK s) (hA : ∀ k, A k → k < w.heap.size) (hLl : s.nw ≤ 100000) (hb : RB w bvv b) :
    Calls Try.prog 29 #[tv, .int .i64 i, bvv] w (Made2 A w (s.write i b) (.int .i64 (s.wrote i b))) := by
  cases hh : s.has i with
  | false => exact refwrite_no i b h hb (.inl hh)
  | true =>
    by_cases hl : b.length ≤ 64
    · have hi := Sim.has_iff.1 hh
      obtain ⟨k, rfl⟩ : ∃ k : Nat, i = (k : Int) := ⟨i.toNat, by omega⟩
      have e : s.wrote k b = 0 := by unfold Sim.wrote; rw [hh, if_pos rfl, if_neg (by omega)]
      rw [e]
      exact refwrite_yes k b h hok hA hLl hb (by omega) hl
    · exact refwrite_no i b h hb (.inr ⟨hh, by omega⟩)
end Go.Proofs.Ytpaahbohbnfibaa
