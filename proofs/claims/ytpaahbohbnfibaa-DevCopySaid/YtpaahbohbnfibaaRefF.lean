/-
  The contract of the document's own Flush.
-/
import Derived.Test.YtpaahbohbnfibaaRefC
namespace Go.Proofs.Ytpaahbohbnfibaa
open Go.RowKit Go.Rst Go.Dv
def trues (k : Nat) : List Value := List.replicate k (.bool true)
theorem trues_succ (k : Nat) : trues (k + 1) = trues k ++ [.bool true] := List.replicate_succ'
theorem KB.own {w : World} {base n : Nat} {v : Value} (h : w.ownsRow base 4 1 v n (trues n)) : KW w v (List.replicate n true) := by
  rcases h.2 with ⟨rfl, h0⟩ | ⟨g, cap, cur, rfl, hb, hg, _⟩
  · subst h0
    exact ⟨none, 0, rfl, .inl rfl⟩
  · refine ⟨_, cap, by rw [List.length_replicate], .inr ⟨g, 0, rfl, (h.lt g rfl).2, fun h => h, fun j hj => ?_⟩⟩
    rw [List.length_replicate] at hj
    rw [Nat.zero_add, h.cellAt j (by omega)]
    simp [trues, hj]
theorem TR.more {A A' : Nat → Prop} {w : World} {tv : Value} {s : Sim} (h : TR A w tv s) (hA : ∀ k, A' k → A k ∨ w.heap.size ≤ k) : TR A' w tv s := h.fr (D := fun _ => False) (Fr.refl _ _) (fun _ h => h.elim) hA
/-- A struct's six cells are laid over a block's. -/
theorem fr_six {D : Nat → Prop} {a w : World} (h : Fr D a w) {g : Nat} (hg : D g ∨ a.heap.size ≤ g) (v0 v1 v2 v3 v4 v5 : Value) :
    Fr D a ((((((w.setCell ⟨g, 0, none⟩ v0).setCell ⟨g, 1, none⟩ v1).setCell ⟨g, 2, none⟩ v2).setCell ⟨g, 3, none⟩ v3).setCell ⟨g, 4, none⟩ v4).setCell ⟨g, 5, none⟩ v5) :=
  (((((h.setCell (p := ⟨g, 0, none⟩) hg v0).setCell (p := ⟨g, 1, none⟩) hg v1).setCell (p := ⟨g, 2, none⟩) hg v2).setCell (p := ⟨g, 3, none⟩) hg v3).setCell (p := ⟨g, 4, none⟩) hg v4).setCell (p := ⟨g, 5, none⟩) hg v5
theorem blk_six {w : World} {g : Nat} {t : TypeId} {z0 z1 z2 z3 z4 z5 : Value} (h : Blk w g t #[z0, z1, z2, z3, z4, z5]) (v0 v1 v2 v3 v4 v5 : Value) :
    Blk ((((((w.setCell ⟨g, 0, none⟩ v0).setCell ⟨g, 1, none⟩ v1).setCell ⟨g, 2, none⟩ v2).setCell ⟨g, 3, none⟩ v3).setCell ⟨g, 4, none⟩ v4).setCell ⟨g, 5, none⟩ v5) g t #[v0, v1, v2, v3, v4, v5] :=
  (((((h.set_ 0 v0).set_ 1 v1).set_ 2 v2).set_ 3 v3).set_ 4 v4).set_ 5 v5
theorem six38 (v0 v1 v2 v3 v4 v5 : Value) : (Try.prog.info? 38).map (·.size) = some (#[v0, v1, v2, v3, v4, v5] : Array Value).size := by
  cases h : Try.prog.info? 38 with
  | none => have := info38; rw [h] at this; cases this
  | some i =>
    have := info38
    rw [h] at this
    simp only [Option.map_some, Option.some.injEq, Prod.mk.injEq] at this
    rw [Option.map_some, this.2]
    rfl
set_option maxRecDepth 100000 in
set_option maxHeartbeats 2000000 in
theorem refflush_any {A : Nat → Prop} {w : World} {tv : Value} {s : Sim} (h : TR A w tv s) (hok : OK s) (hA : ∀ k, A k → k < w.heap.size) (hLl : s.nw ≤ 100000) (hf9 : s.nf ≤ 100000) :
    Calls Try.prog 30 #[tv] w (Made A w s.flush) := by
  have HT := Lib.hid h
  obtain ⟨vS, vL, lf, rfl, hS, hL, hlf⟩ := h
  obtain ⟨aS, cS, rfl, hc⟩ := hS.shape
  obtain ⟨aL, cL, rfl, _⟩ := hL.shape
  have HO := Lib.hid hok
  have HA := Lib.hid hA
  clear hS hL hlf hok hA
  obtain ⟨f0, hf0⟩ : ∃ f0, f0 = s.fuse.isSome := ⟨_, rfl⟩
  rw [← hf0] at HT ⊢
  clear hf0
  go_enter Try.func30, Try.ntmps30
  go_wp2_with fail
  go_at_call 39
  refine (burn_any (A := fun k => A k ∨ k = w.heap.size ∨ k = w.heap.size + 1) ((HT.out.fr (D := fun _ => False) (Fr.of_below (below2 w _ _)) (fun _ h => h.elim) (fun k hk => by
    rcases hk with hk | hk | hk
    · exact .inl hk
    · exact .inr (by omega)
    · exact .inr (by omega)))) HO.out.u).mono ?_
  rintro e w1 ⟨tv1, rfl, ht, hb⟩
  obtain ⟨W1, hW1⟩ : ∃ W1, W1 = ((w.alloc (Obj.cells #[Value.slice aS s.firm.length cS, Value.slice aL s.loose.length cL, Value.int IntKind.i64 ↑s.nw, Value.int IntKind.i64 ↑s.nf, Value.bool f0, Value.int IntKind.i64 lf] 38)).alloc (Obj.cells #[Value.slice none 0 0, Value.slice none 0 0, Value.int IntKind.i64 0, Value.int IntKind.i64 0, Value.bool false, Value.int IntKind.i64 0] 38)) := ⟨_, rfl⟩
  rw [← hW1] at hb
  have hb2 : Blk W1 (w.heap.size + 1) 38 #[Value.slice none 0 0, Value.slice none 0 0, Value.int IntKind.i64 0, Value.int IntKind.i64 0, Value.bool false, Value.int IntKind.i64 0] := by rw [hW1]; exact heap_alloc2_new w _ _
  have hs1 : W1.heap.size = w.heap.size + 1 + 1 := by rw [hW1]; simp
  have hbw : Below w.heap.size w w1 := by
    have : Below w.heap.size w W1 := by rw [hW1]; exact below2 w _ _
    exact this.trans (hb.mono (by omega))
  obtain ⟨g2, hg2⟩ : ∃ g2, g2 = w.heap.size := ⟨_, rfl⟩
  rw [← hg2] at hb2 hs1 ht ⊢
  have hs2 : g2 + 1 + 1 ≤ w1.heap.size := by have := hb.size; omega
  have HB2 := Lib.hid (hb2.below hb (by omega))
  have HBW := Lib.hid hbw
  have HG2 := Lib.hid hg2
  have HS2 := Lib.hid hs2
  clear hW1 hb hb2 hs1 hbw hg2 hs2
  cases hg : s.goes with
  | false =>
    rw [hg] at ht
    have e : s.flush = s := by simp [Sim.flush, hg]
    rw [e]
    obtain ⟨vS1, vL1, lf1, rfl, hS1, hL1, hlf1⟩ := id ht
    obtain ⟨aS1, cS1, rfl, _⟩ := hS1.shape
    obtain ⟨aL1, cL1, rfl, _⟩ := hL1.shape
    have HS1 := Lib.hid hS1
    have HL1 := Lib.hid hL1
    have HLF := Lib.hid hlf1
    have d0 : w1.cell? ⟨g2 + 1, 0, none⟩ = some (.slice none 0 0) := HB2.out.cell 0
    have d1 : w1.cell? ⟨g2 + 1, 1, none⟩ = some (.slice none 0 0) := HB2.out.cell 1
    have d2 : w1.cell? ⟨g2 + 1, 2, none⟩ = some (.int .i64 0) := HB2.out.cell 2
    have d3 : w1.cell? ⟨g2 + 1, 3, none⟩ = some (.int .i64 0) := HB2.out.cell 3
    have d4 : w1.cell? ⟨g2 + 1, 4, none⟩ = some (.bool false) := HB2.out.cell 4
    have d5 : w1.cell? ⟨g2 + 1, 5, none⟩ = some (.int .i64 0) := HB2.out.cell 5
    have df : ∀ i, w1.frozen? ⟨g2 + 1, i, none⟩ = false := HB2.out.frozen
    have hlt := HB2.out.lt
    have HTR := Lib.hid ht
    have HE := Lib.hid e
    clear ht hg e hS1 hL1 hlf1
    obtain ⟨f1, hf1⟩ : ∃ f1, f1 = s.fuse.isSome := ⟨_, rfl⟩
    simp only [Bool.false_eq_true, if_false] at HTR ⊢
    rw [← hf1] at HTR ⊢
    clear hf1
    go_wp2
    have hblk := (blk_six HB2.out (.slice aS1 s.firm.length cS1) (.slice aL1 s.loose.length cL1) (.int .i64 (s.nw : Int)) (.int .i64 (s.nf : Int)) (.bool f1) (.int .i64 lf1)).alloc (Obj.cells #[Value.slice aS1 s.firm.length cS1, Value.slice aL1 s.loose.length cL1, Value.int IntKind.i64 ↑s.nw, Value.int IntKind.i64 ↑s.nf, Value.bool f1, Value.int IntKind.i64 lf1] 38)
    refine bodyPost_ret (v := .agg #[.slice aS1 s.firm.length cS1, .slice aL1 s.loose.length cL1, .int .i64 (s.nw : Int), .int .i64 (s.nf : Int), .bool f1, .int .i64 lf1]) (results_cell_row rfl _ _ (g2 + 1) 38 _ (0, 0) _ rfl hblk Try.underlying38 rfl (six38 _ _ _ _ _ _)) rfl ?_
    rw [HE.out]
    have hfr := (fr_six (Fr.refl (fun k => k = g2 + 1) w1) (.inl rfl) (.slice aS1 s.firm.length cS1) (.slice aL1 s.loose.length cL1) (.int .i64 (s.nw : Int)) (.int .i64 (s.nf : Int)) (.bool f1) (.int .i64 lf1)).alloc (Obj.cells #[Value.slice aS1 s.firm.length cS1, Value.slice aL1 s.loose.length cL1, Value.int IntKind.i64 ↑s.nw, Value.int IntKind.i64 ↑s.nf, Value.bool f1, Value.int IntKind.i64 lf1] 38)
    exact ⟨_, rfl, HTR.out.fr hfr (fun k hk => .inr (.inr hk)) (fun k hk => .inl (.inl hk)), HBW.out.trans (hfr.below (fun k hk => by have := HG2.out; omega) HBW.out.size)⟩
  | true =>
    rw [hg] at ht
    have e : s.flush = { s.burnt.land (List.replicate s.loose.length true) with nf := s.nf + 1 } := by simp [Sim.flush, hg]
    have ht1 : TR (fun k => A k ∨ k = g2 ∨ k = g2 + 1) w1 tv1 s.burnt := ht
    obtain ⟨vS1, vL1, lf1, rfl, hS1, hL1, hlf1⟩ := id ht1
    obtain ⟨aS1, cS1, rfl, _⟩ := hS1.shape
    obtain ⟨aL1, cL1, rfl, _⟩ := hL1.shape
    have HTR := Lib.hid ht1
    have HE := Lib.hid e
    have HLF := Lib.hid hlf1
    have e1 : s.burnt.firm.length = s.firm.length := rfl
    have e2 : s.burnt.loose.length = s.loose.length := rfl
    have e3 : s.burnt.nw = s.nw := rfl
    have e4 : s.burnt.nf = s.nf := rfl
    obtain ⟨f1, hf1⟩ : ∃ f1, f1 = s.burnt.fuse.isSome := ⟨_, rfl⟩
    rw [e1, e2, e3, e4, ← hf1] at HTR ⊢
    have HF1 := Lib.hid hf1
    have hl9 : s.loose.length ≤ 100000 := Nat.le_trans HO.out.w hLl
    clear ht ht1 hg e hS1 hL1 hlf1 hf1 e1 e2 e3 e4
    obtain ⟨g3, hg3⟩ : ∃ g3, g3 = w1.heap.size := ⟨_, rfl⟩
    have HG3 := Lib.hid hg3
    go_wp2
    rw [← hg3]
    obtain ⟨W3, hW3⟩ : ∃ W3, W3 = w1.alloc (Obj.cells #[Value.slice aS1 s.firm.length cS1, Value.slice aL1 s.loose.length cL1, Value.int IntKind.i64 ↑s.nw, Value.int IntKind.i64 ↑s.nf, Value.bool f1, Value.int IntKind.i64 lf1] 38) := ⟨_, rfl⟩
    rw [← hW3]
    have hb3 : Blk W3 g3 38 #[Value.slice aS1 s.firm.length cS1, Value.slice aL1 s.loose.length cL1, Value.int IntKind.i64 ↑s.nw, Value.int IntKind.i64 ↑s.nf, Value.bool f1, Value.int IntKind.i64 lf1] := by rw [hW3, hg3]; exact heap_alloc_new w1 _
    have HW3 := Lib.hid (show Below w1.heap.size w1 W3 by rw [hW3]; exact (Below.refl _ _).alloc (Nat.le_refl _) _)
    have HB3 := Lib.hid hb3
    have HS3 := Lib.hid (show W3.heap.size = g3 + 1 by rw [hW3, hg3]; simp)
    clear hW3 hg3 hb3
    go_loopw [5, 6] (fun v i wr => ∃ k : Nat, k ≤ s.loose.length ∧ i = .int .i64 k ∧ wr.ownsRow W3.heap.size 4 1 v k (trues k) ∧ Below W3.heap.size W3 wr) (fun _ i _ => s.loose.length - (intOf i).toNat)
    case atStart => exact ⟨0, Nat.zero_le _, rfl, World.ownsRow_nil _ _ _ _, Below.refl _ _⟩
    case round =>
      obtain ⟨k, hk, rfl, hown, hbel⟩ := hrel
      obtain ⟨A3, c3, rfl, hc3⟩ := own_shape hown
      have HB3r := Lib.hid (HB3.out.below hbel HB3.out.lt)
      have hc1 : wr.cell? ⟨g3, 1, none⟩ = some (.slice aL1 s.loose.length cL1) := HB3r.out.cell 1
      by_cases hlt : k < s.loose.length
      · have HOw := Lib.hid hown
        have HBl := Lib.hid hbel
        clear hown hbel
        go_wp2_with (at_builtin; refine wpList_own rfl (.tmp 23) (.tmp 24) 42 42 rfl W3.heap.size 4 (.bool false) 1 1 Try.underlying42 info4 rfl rfl (HOw.out.alloc _) rfl (src_one wr Try.underlying42 4 _ rfl) (HBl.out.alloc HBl.out.size _) (Nat.le_refl _) ?_ ?_ ?_ ?_)
        · unfold maxLen; omega
        · omega
        · have := HBl.out.size; simp; omega
        intro v5 w5 hown5 hbel5 _
        rw [← trues_succ] at hown5
        have HO5 := Lib.hid hown5
        have HB5 := Lib.hid hbel5
        clear hown5 hbel5
        go_wp2
        go_roundw
        case rel => exact ⟨k + 1, by omega, by go_num, HO5.out, HB5.out⟩
        case measure => simp [intOf]; omega
      · obtain rfl : k = s.loose.length := by omega
        have HKW := Lib.hid (KB.own hown)
        have hbr : Below w1.heap.size w1 wr := HW3.out.trans (hbel.mono (by have := HS3.out; have := HG3.out; omega))
        have hT3 : TR (fun k => (A k ∨ k = g2 ∨ k = g2 + 1) ∨ k = g3) wr _ s.burnt := HTR.out.fr (D := fun _ => False) (Fr.of_below hbr) (fun _ h => h.elim) (fun k hk => by
          rcases hk with hk | hk
          · exact .inl hk
          · exact .inr (by have := HG3.out; omega))
        have HT3 := Lib.hid hT3
        have HBr := Lib.hid hbr
        have HAk := Lib.hid (show ∀ k, ((A k ∨ k = g2 ∨ k = g2 + 1) ∨ k = g3) → k < wr.heap.size from fun k hk => by
          have h1 := HB3r.out.lt
          have h2 := HG2.out
          have h3 := HG3.out
          have h4 := HS2.out
          rcases hk with (hk | hk | hk) | hk
          · have := HA.out k hk; omega
          · omega
          · omega
          · omega)
        have c0 : wr.cell? ⟨g3, 0, none⟩ = some (.slice aS1 s.firm.length cS1) := HB3r.out.cell 0
        have c2 : wr.cell? ⟨g3, 2, none⟩ = some (.int .i64 (s.nw : Int)) := HB3r.out.cell 2
        have c3' : wr.cell? ⟨g3, 3, none⟩ = some (.int .i64 (s.nf : Int)) := HB3r.out.cell 3
        have c4 : wr.cell? ⟨g3, 4, none⟩ = some (.bool f1) := HB3r.out.cell 4
        have c5 : wr.cell? ⟨g3, 5, none⟩ = some (.int .i64 lf1) := HB3r.out.cell 5
        have HB2r := Lib.hid (HB2.out.below hbr (by have := HS2.out; omega))
        clear hown hbel hT3 hbr
        go_wp2_with fail
        go_at_call 31
        refine (refcrash_any _ HT3.out HO.out.burnt HAk.out hLl HKW.out).mono ?_
        rintro e w4 ⟨tv4, rfl, ht4, hb4⟩
        obtain ⟨vS4, vL4, lf4, rfl, hS4, hL4, _⟩ := id ht4
        obtain ⟨aS4, cS4, rfl, _⟩ := hS4.shape
        obtain ⟨aL4, cL4, rfl, _⟩ := hL4.shape
        have HB34 := Lib.hid (HB3r.out.below hb4 HB3r.out.lt)
        have HB24 := Lib.hid (HB2r.out.below hb4 HB2r.out.lt)
        obtain ⟨C, hC⟩ : ∃ C, C = s.burnt.crash (List.replicate s.loose.length true) := ⟨_, rfl⟩
        have hC1 : C.nw = s.nw := by rw [hC]; rfl
        have hC2 : C.nf = s.nf := by rw [hC]; rfl
        rw [← hC] at ht4 hS4 hL4 ⊢
        rw [hC1, hC2] at ht4 ⊢
        have HS4 := Lib.hid hS4
        have HL4 := Lib.hid hL4
        obtain ⟨f4, hf4⟩ : ∃ f4, f4 = C.fuse.isSome := ⟨_, rfl⟩
        rw [← hf4] at ht4 ⊢
        have HC := Lib.hid hC
        clear hC hC1 hC2 hf4
        have HT4 := Lib.hid ht4
        have HB4 := Lib.hid hb4
        have e4 : w4.cell? ⟨g3, 4, none⟩ = some (.bool f1) := HB34.out.cell 4
        have e5 : w4.cell? ⟨g3, 5, none⟩ = some (.int .i64 lf1) := HB34.out.cell 5
        have d0 : w4.cell? ⟨g2 + 1, 0, none⟩ = some (.slice none 0 0) := HB24.out.cell 0
        have d1 : w4.cell? ⟨g2 + 1, 1, none⟩ = some (.slice none 0 0) := HB24.out.cell 1
        have d2 : w4.cell? ⟨g2 + 1, 2, none⟩ = some (.int .i64 0) := HB24.out.cell 2
        have d3 : w4.cell? ⟨g2 + 1, 3, none⟩ = some (.int .i64 0) := HB24.out.cell 3
        have d4 : w4.cell? ⟨g2 + 1, 4, none⟩ = some (.bool false) := HB24.out.cell 4
        have d5 : w4.cell? ⟨g2 + 1, 5, none⟩ = some (.int .i64 0) := HB24.out.cell 5
        have df : ∀ i, w4.frozen? ⟨g2 + 1, i, none⟩ = false := HB24.out.frozen
        have l2 : g2 + 1 < w4.heap.size := HB24.out.lt
        have l3 : g3 < w4.heap.size := HB34.out.lt
        clear ht4 hb4 hS4 hL4 c0 hc1 c2 c3' c4 c5
        go_wp2
        have hblk := (blk_six HB24.out (.slice aS4 C.firm.length cS4) (.slice aL4 C.loose.length cL4) (.int .i64 (s.nw : Int)) (.int .i64 ((s.nf : Int) + 1)) (.bool f1) (.int .i64 lf1)).alloc (Obj.cells #[Value.slice aS4 C.firm.length cS4, Value.slice aL4 C.loose.length cL4, Value.int IntKind.i64 ↑s.nw, Value.int IntKind.i64 (↑s.nf + 1), Value.bool f1, Value.int IntKind.i64 lf1] 38)
        refine bodyPost_ret (v := .agg #[.slice aS4 C.firm.length cS4, .slice aL4 C.loose.length cL4, .int .i64 (s.nw : Int), .int .i64 ((s.nf : Int) + 1), .bool f1, .int .i64 lf1]) (results_cell_row rfl _ _ (g2 + 1) 38 _ (0, 0) _ rfl hblk Try.underlying38 rfl (six38 _ _ _ _ _ _)) rfl ?_
        rw [HE.out]
        have hfr := (fr_six (Fr.refl (fun k => k = g2 + 1) w4) (.inl rfl) (.slice aS4 C.firm.length cS4) (.slice aL4 C.loose.length cL4) (.int .i64 (s.nw : Int)) (.int .i64 ((s.nf : Int) + 1)) (.bool f1) (.int .i64 lf1)).alloc (Obj.cells #[Value.slice aS4 C.firm.length cS4, Value.slice aL4 C.loose.length cL4, Value.int IntKind.i64 ↑s.nw, Value.int IntKind.i64 (↑s.nf + 1), Value.bool f1, Value.int IntKind.i64 lf1] 38)
        have hSf := HS4.out.fr (A' := A) hfr (fun k hk => .inl (.inr (.inr hk))) (fun k hk => .inl (.inl (.inl hk)))
        have hLf := HL4.out.fr (A' := A) hfr (fun k hk => .inl (.inr (.inr hk))) (fun k hk => .inl (.inl (.inl hk)))
        have hbb : Below w.heap.size w w4 := (HBW.out.trans (HBr.out.mono HBW.out.size)).trans (HB4.out.mono (Nat.le_trans HBW.out.size HBr.out.size))
        have hbf := hbb.trans (hfr.below (fun k hk => by have := HG2.out; omega) hbb.size)
        have hq1 : C.firm = ({ s.burnt.land (List.replicate s.loose.length true) with nf := s.nf + 1 } : Sim).firm := by rw [HC.out]; rfl
        have hq2 : C.loose = ({ s.burnt.land (List.replicate s.loose.length true) with nf := s.nf + 1 } : Sim).loose := by rw [HC.out]; rfl
        have hq3 : ({ s.burnt.land (List.replicate s.loose.length true) with nf := s.nf + 1 } : Sim).fuse = s.burnt.fuse := rfl
        have hq4 : ({ s.burnt.land (List.replicate s.loose.length true) with nf := s.nf + 1 } : Sim).nw = s.nw := rfl
        have hq5 : ({ s.burnt.land (List.replicate s.loose.length true) with nf := s.nf + 1 } : Sim).nf = s.nf + 1 := rfl
        generalize ({ s.burnt.land (List.replicate s.loose.length true) with nf := s.nf + 1 } : Sim) = G at hq1 hq2 hq3 hq4 hq5 ⊢
        have hlfG : ∀ k, G.fuse = some k → lf1 = (k : Int) := by rw [hq3]; exact HLF.out
        rw [hq1] at hSf
        rw [hq2] at hLf
        refine ⟨_, rfl, ⟨.slice aS4 C.firm.length cS4, .slice aL4 C.loose.length cL4, lf1, ?_, ?_, ?_, hlfG⟩, ?_⟩
        · rw [hq3, hq4, hq5, ← HF1.out]
          rfl
        · rw [hq1]
          exact hSf
        · rw [hq2]
          exact hLf
        · exact hbf
end Go.Proofs.Ytpaahbohbnfibaa
