/-
  The contract of the document's own Spoil.
-/
import Derived.Test.YtpaahbohbnfibaaRefF
namespace Go.Proofs.Ytpaahbohbnfibaa
open Go.RowKit Go.Rst Go.Dv
set_option maxRecDepth 100000 in
set_option maxHeartbeats 2000000 in
theorem refspoil_no {A : Nat → Prop} {w : World} {tv : Value} {s : Sim} (i a : Int) (v : UInt8) (h : TR A w tv s) (hc : s.can i a = false) :
    Calls Try.prog 33 #[tv, .int .i64 i, .int .i64 a, bv v] w (Made2 A w s (.bool false)) := by
  have HT := Lib.hid h
  obtain ⟨vS, vL, lf, rfl, hS, hL, hlf⟩ := h
  obtain ⟨aS, cS, rfl, hcS⟩ := hS.shape
  obtain ⟨aL, cL, rfl, _⟩ := hL.shape
  have HS := Lib.hid hS
  have HL := Lib.hid hL
  have HLF := Lib.hid hlf
  clear hS hL hlf
  obtain ⟨f0, hf0⟩ : ∃ f0, f0 = s.fuse.isSome := ⟨_, rfl⟩
  rw [← hf0] at HT ⊢
  have HF := Lib.hid hf0.symm
  clear hf0
  have hcase : (decide (i < 0) = true) ∨ (decide (i < 0) = false ∧ (s.firm.length : Int) ≤ i) ∨ (decide (i < 0) = false ∧ ¬ (s.firm.length : Int) ≤ i ∧ a < 0) ∨ (decide (i < 0) = false ∧ ¬ (s.firm.length : Int) ≤ i ∧ ¬ a < 0 ∧ 63 < a) := by
    by_cases h1 : i < 0
    · exact .inl (by simpa using h1)
    · by_cases h2 : (s.firm.length : Int) ≤ i
      · exact .inr (.inl ⟨by simpa using h1, h2⟩)
      · by_cases h3 : a < 0
        · exact .inr (.inr (.inl ⟨by simpa using h1, h2, h3⟩))
        · refine .inr (.inr (.inr ⟨by simpa using h1, h2, h3, ?_⟩))
          have hh : s.has i = true := Sim.has_iff.2 ⟨by omega, by omega⟩
          rcases Int.lt_or_le 63 a with h4 | h4
          · exact h4
          · exfalso
            have : s.can i a = true := by simp [Sim.can, hh]; omega
            rw [hc] at this; cases this
  clear hc
  unfold bv
  rcases hcase with h1 | ⟨h1, h2⟩ | ⟨h1, h2, h3⟩ | ⟨h1, h2, h3, h4⟩
  all_goals
    go_enter Try.func33, Try.ntmps33
    go_wp2
    exact bodyPost_ret (v := .tuple #[.agg #[.slice aS s.firm.length cS, .slice aL s.loose.length cL, .int .i64 (s.nw : Int), .int .i64 (s.nf : Int), .bool f0, .int .i64 lf], .bool false]) (by simp [results, Try.results33, go_sem]) rfl
      (Made2.mk HS.out HL.out HF.out HLF.out (below2 w _ _))
set_option maxRecDepth 100000 in
set_option maxHeartbeats 2000000 in
theorem refspoil_yes {A : Nat → Prop} {w : World} {tv : Value} {s : Sim} (i j : Nat) (v : UInt8) (h : TR A w tv s) (hok : OK s) (hA : ∀ k, A k → k < w.heap.size) (hi : i < s.firm.length) (hj : j < 64) :
    Calls Try.prog 33 #[tv, .int .i64 (i : Int), .int .i64 (j : Int), bv v] w (Made2 A w { s with firm := s.firm.set i ((s.firm.getD i []).set j v) } (.bool true)) := by
  obtain ⟨vS, vL, lf, rfl, hS, hL, hlf⟩ := h
  obtain ⟨aS, cS, rfl, hc⟩ := hS.shape
  obtain ⟨aL, cL, rfl, _⟩ := hL.shape
  have hn9 := hok.n
  have HS := Lib.hid hS
  have HL := Lib.hid hL
  have HLF := Lib.hid hlf
  have HO := Lib.hid hok
  have HA := Lib.hid hA
  obtain ⟨N, hN⟩ : ∃ N, N = s.firm.length := ⟨_, rfl⟩
  rw [← hN] at hc hn9 hi
  have HN := Lib.hid hN
  clear hS hL hlf hok hA
  rw [← hN]
  clear hN
  obtain ⟨f0, hf0⟩ : ∃ f0, f0 = s.fuse.isSome := ⟨_, rfl⟩
  rw [← hf0]
  have HF := Lib.hid hf0.symm
  clear hf0
  have hSsrc : ∃ qs : List (List UInt8 × Value), qs.map (·.1) = s.firm ∧ (∀ q ∈ qs, RA A w q.2 q.1) ∧ ∀ w', Below w.heap.size w w' → Src Try.prog 1 35 (.slice aS N cS) N (qs.map (·.2)) w' := by
    obtain ⟨qs, h1, h2, h3⟩ := HS.out
    refine ⟨qs, h1, h3, fun w' hb => ?_⟩
    have h4 := h2.fr (D := fun _ => False) (A' := A) (Fr.of_below hb) (fun _ h => h.elim) (fun _ h => .inl h)
    rw [← HN.out] at h4
    refine h4.src (by rw [HN.out, ← h1]; simp) (by decide) Try.underlying35 (fun x hx => ?_)
    obtain ⟨q, hq, rfl⟩ := List.mem_map.1 hx
    exact (h3 q hq).one
  obtain ⟨qs, hq1, hq2, hsrc⟩ := hSsrc
  have hql : qs.length = N := by rw [HN.out, ← hq1]; simp
  have HQL := Lib.hid hql
  have HQ1 := Lib.hid hq1
  have HQ2 := Lib.hid hq2
  have HSR := Lib.hid hsrc
  clear hq1 hq2 hsrc hql
  have HLM := Lib.hid (show 0 + N ≤ maxLen by unfold maxLen; omega)
  have HLB := Lib.hid (show (0 + N) * 24 ≤ 140737488355328 by omega)
  have hi0 : decide ((i : Int) < 0) = false := by simp
  have hi1 : ¬ (N : Int) ≤ (i : Int) := by omega
  have hi2 : (0 : Int) ≤ (i : Int) := by omega
  have hi3 : (i : Int) < (N : Int) := by omega
  have hj0 : ¬ (j : Int) < 0 := by omega
  have hj1 : ¬ 63 < (j : Int) := by omega
  have hj2 : (0 : Int) ≤ (j : Int) := by omega
  have hj3 : (j : Int) < 64 := by omega
  unfold bv
  go_enter Try.func33, Try.ntmps33
  go_wp2_with (at_builtin; refine wpList_own rfl (.tmp 30) (.tmp 32) 35 35 rfl (w.heap.size + 1 + 1) 28 (.slice none 0 0) 1 24 Try.underlying35 info28 rfl rfl (World.ownsRow_nil _ _ _ _) rfl (HSR.out _ (below2 w _ _)) (Below.refl (w.heap.size + 1 + 1) _) (Nat.le_refl _) HLM.out HLB.out (by simp) ?_)
  intro vs w2 hown hbel _
  obtain ⟨g2, hg2⟩ : ∃ g2, g2 = w.heap.size := ⟨_, rfl⟩
  obtain ⟨W1, hW1⟩ : ∃ W1, W1 = ((w.alloc (Obj.cells #[Value.slice aS N cS, Value.slice aL s.loose.length cL, Value.int IntKind.i64 ↑s.nw, Value.int IntKind.i64 ↑s.nf, Value.bool f0, Value.int IntKind.i64 lf] 38)).alloc (Obj.cells #[Value.slice none 0 0, Value.slice none 0 0, Value.int IntKind.i64 0, Value.int IntKind.i64 0, Value.bool false, Value.int IntKind.i64 0] 38)) := ⟨_, rfl⟩
  rw [← hW1] at hbel
  have hb1 : Blk W1 g2 38 #[Value.slice aS N cS, Value.slice aL s.loose.length cL, Value.int IntKind.i64 ↑s.nw, Value.int IntKind.i64 ↑s.nf, Value.bool f0, Value.int IntKind.i64 lf] := by rw [hW1, hg2]; exact heap_alloc2_old w _ _
  have hb2 : Blk W1 (g2 + 1) 38 #[Value.slice none 0 0, Value.slice none 0 0, Value.int IntKind.i64 0, Value.int IntKind.i64 0, Value.bool false, Value.int IntKind.i64 0] := by rw [hW1, hg2]; exact heap_alloc2_new w _ _
  have hbw : Below w.heap.size w w2 := by
    have : Below w.heap.size w W1 := by rw [hW1]; exact below2 w _ _
    exact this.trans (hbel.mono (by omega))
  have hs1 : W1.heap.size = g2 + 1 + 1 := by rw [hW1, hg2]; simp
  rw [← hg2] at hown hbel ⊢
  -- the row's block
  obtain ⟨gs, capS, rfl, hgs⟩ : ∃ gs capS, vs = .slice (some ⟨gs, 0, none⟩) N capS ∧ g2 + 1 + 1 ≤ gs := by
    rcases hown.2 with ⟨_, h0⟩ | ⟨g, cap, cur, he, hge, _⟩
    · omega
    · exact ⟨g, cap, by rw [he], hge⟩
  have hown2 : w2.ownsRow (g2 + 1 + 1) 28 1 (.slice (some ⟨gs, 0, none⟩) N capS) N (qs.map (·.2)) := by simpa using hown
  have hgs2 := (hown2.lt gs rfl).2
  have hci := hown2.cellAt i (by omega)
  have hqi : i < qs.length := by rw [HQL.out]; exact hi
  rw [List.getElem?_map, List.getElem?_eq_getElem hqi, Option.map_some] at hci
  have hra := HQ2.out qs[i] (List.getElem_mem hqi)
  have hfi : qs[i].1 = s.firm.getD i [] := by rw [← HQ1.out]; simp [List.getD_eq_getElem?_getD, List.getElem?_map, List.getElem?_eq_getElem hqi]
  rw [hfi] at hra
  obtain ⟨l, hl⟩ : ∃ l, l = s.firm.getD i [] := ⟨_, rfl⟩
  have hl64 : l.length = 64 := by rw [hl]; exact HO.out.firm_ (by rw [← HN.out]; exact hi)
  rw [← hl] at hra
  obtain ⟨u, hu⟩ : ∃ u, u = qs[i].2 := ⟨_, rfl⟩
  rw [← hu] at hra hci
  have hRB2 := hra.1.below hbw
  obtain ⟨aU, cU, huU, _⟩ := id hra.1
  rw [hl64] at huU
  subst huU
  have HB1 := Lib.hid (hb1.below hbel (by omega))
  have HB2 := Lib.hid (hb2.below hbel (by omega))
  have HBW := Lib.hid hbw
  have HG2 := Lib.hid hg2
  have HGS := Lib.hid hgs
  have HGS2 := Lib.hid hgs2
  have HOW := Lib.hid hown2
  have HRB := Lib.hid hRB2
  have HL64 := Lib.hid hl64
  have HL9 := Lib.hid hl
  have HS2 := Lib.hid (show g2 + 1 + 1 ≤ w2.heap.size by omega)
  clear hown hbel hW1 hb1 hb2 hbw hg2 hs1 hgs hgs2 hown2 hra hRB2 hl64 hl hu hfi hqi
  have HSB := Lib.hid (show Src Try.prog 1 28 (.slice aU 64 cU) 64 (bvs l) w2 by have := HRB.out.src Try.underlying28; rw [HL64.out] at this; exact this)
  go_wp2_with (at_builtin; refine wpList_own rfl (.tmp 34) (.tmp 38) 28 28 rfl w2.heap.size 5 (.int .u8 0) 1 1 Try.underlying28 info5 rfl rfl (World.ownsRow_nil _ _ _ _) rfl HSB.out (Below.refl w2.heap.size _) (Nat.le_refl _) (by unfold maxLen; omega) (by omega) (Nat.le_refl _) ?_)
  intro vb w4 hownb hbel4 _
  obtain ⟨gb, cb, rfl, hgb⟩ : ∃ gb cb, vb = .slice (some ⟨gb, 0, none⟩) 64 cb ∧ w2.heap.size ≤ gb := by
    rcases hownb.2 with ⟨_, h0⟩ | ⟨g, cap, cur, he, hge, _⟩
    · omega
    · exact ⟨g, cap, by rw [he], hge⟩
  have hob : w4.ownsRow w2.heap.size 5 1 (.slice (some ⟨gb, 0, none⟩) 64 cb) 64 (bvs l) := by simpa using hownb
  have hgb2 := (hob.lt gb rfl).2
  have hcb := hob.cellAt j (by omega)
  have hjl : j < l.length := by rw [HL64.out]; exact hj
  rw [bvs_get hjl] at hcb
  unfold bv at hcb
  generalize l[j] = y at hcb
  have hfb := hob.frozenAt j
  have hgs2 := HGS2.out
  have hgs1 := HGS.out
  have hog := own_below HOW.out hbel4
  have hci4 := hog.cellAt i (by omega)
  rw [List.getElem?_eq_getElem (show i < (qs.map (·.2)).length by rw [List.length_map, HQL.out]; exact hi)] at hci4
  obtain ⟨u4, hci5⟩ : ∃ u4, w4.cell? ⟨gs, i, none⟩ = some u4 := ⟨_, hci4⟩
  clear hci4
  have hfi4 := hog.frozenAt i
  have hs2 := HS2.out
  have HB14 := Lib.hid (HB1.out.below hbel4 (by omega))
  have HB24 := Lib.hid (HB2.out.below hbel4 (by omega))
  have HOB := Lib.hid hob
  have HOG := Lib.hid hog
  have HBE := Lib.hid hbel4
  have HGB := Lib.hid hgb
  have b0 : w4.cell? ⟨g2, 0, none⟩ = some (.slice aS N cS) := HB14.out.cell 0
  have b1 : w4.cell? ⟨g2, 1, none⟩ = some (.slice aL s.loose.length cL) := HB14.out.cell 1
  have b2 : w4.cell? ⟨g2, 2, none⟩ = some (.int .i64 (s.nw : Int)) := HB14.out.cell 2
  have b3 : w4.cell? ⟨g2, 3, none⟩ = some (.int .i64 (s.nf : Int)) := HB14.out.cell 3
  have b4 : w4.cell? ⟨g2, 4, none⟩ = some (.bool f0) := HB14.out.cell 4
  have b5 : w4.cell? ⟨g2, 5, none⟩ = some (.int .i64 lf) := HB14.out.cell 5
  have bf : ∀ i, w4.frozen? ⟨g2, i, none⟩ = false := HB14.out.frozen
  have d0 : w4.cell? ⟨g2 + 1, 0, none⟩ = some (.slice none 0 0) := HB24.out.cell 0
  have d1 : w4.cell? ⟨g2 + 1, 1, none⟩ = some (.slice none 0 0) := HB24.out.cell 1
  have d2 : w4.cell? ⟨g2 + 1, 2, none⟩ = some (.int .i64 0) := HB24.out.cell 2
  have d3 : w4.cell? ⟨g2 + 1, 3, none⟩ = some (.int .i64 0) := HB24.out.cell 3
  have d4 : w4.cell? ⟨g2 + 1, 4, none⟩ = some (.bool false) := HB24.out.cell 4
  have d5 : w4.cell? ⟨g2 + 1, 5, none⟩ = some (.int .i64 0) := HB24.out.cell 5
  have df : ∀ i, w4.frozen? ⟨g2 + 1, i, none⟩ = false := HB24.out.frozen
  have n1 : gb ≠ gs := by omega
  have n2 : gb ≠ g2 := by omega
  have n3 : gb ≠ g2 + 1 := by omega
  have n4 : gs ≠ g2 := by omega
  have n5 : gs ≠ g2 + 1 := by omega
  clear hownb hob hog hbel4 hgb hjl
  go_wp2
  obtain ⟨W, hW⟩ : ∃ W, W = (((((((((w4.setCell ⟨gb, j, none⟩ (Value.int IntKind.u8 ↑v.toNat)).setCell ⟨gs, i, none⟩ (Value.slice (some ⟨gb, 0, none⟩) 64 cb)).setCell ⟨g2, 0, none⟩ (Value.slice (some ⟨gs, 0, none⟩) N capS)).setCell ⟨g2 + 1, 0, none⟩ (Value.slice (some ⟨gs, 0, none⟩) N capS)).setCell ⟨g2 + 1, 1, none⟩ (Value.slice aL s.loose.length cL)).setCell ⟨g2 + 1, 2, none⟩ (Value.int IntKind.i64 ↑s.nw)).setCell ⟨g2 + 1, 3, none⟩ (Value.int IntKind.i64 ↑s.nf)).setCell ⟨g2 + 1, 4, none⟩ (Value.bool f0)).setCell ⟨g2 + 1, 5, none⟩ (Value.int IntKind.i64 lf)) := ⟨_, rfl⟩
  rw [← hW]
  have hblk : Blk W (g2 + 1) 38 #[.slice (some ⟨gs, 0, none⟩) N capS, .slice aL s.loose.length cL, .int .i64 (s.nw : Int), .int .i64 (s.nf : Int), .bool f0, .int .i64 lf] := by
    rw [hW]
    exact blk_six (((HB24.out.far (p := ⟨gb, j, none⟩) (fun e => n3 e.symm) _).far (p := ⟨gs, i, none⟩) (fun e => n5 e.symm) _).far (p := ⟨g2, 0, none⟩) (by show g2 + 1 ≠ g2; omega) _) _ _ _ _ _ _
  refine bodyPost_ret (v := .tuple #[.agg #[.slice (some ⟨gs, 0, none⟩) N capS, .slice aL s.loose.length cL, .int .i64 (s.nw : Int), .int .i64 (s.nf : Int), .bool f0, .int .i64 lf], .bool true]) (by
    have e0 : W.cell? ⟨g2 + 1, 0, none⟩ = some (.slice (some ⟨gs, 0, none⟩) N capS) := hblk.cell 0
    have e1 : W.cell? ⟨g2 + 1, 1, none⟩ = some (.slice aL s.loose.length cL) := hblk.cell 1
    have e2 : W.cell? ⟨g2 + 1, 2, none⟩ = some (.int .i64 (s.nw : Int)) := hblk.cell 2
    have e3 : W.cell? ⟨g2 + 1, 3, none⟩ = some (.int .i64 (s.nf : Int)) := hblk.cell 3
    have e4 : W.cell? ⟨g2 + 1, 4, none⟩ = some (.bool f0) := hblk.cell 4
    have e5 : W.cell? ⟨g2 + 1, 5, none⟩ = some (.int .i64 lf) := hblk.cell 5
    simp [results, Try.results33, go_sem, e0, e1, e2, e3, e4, e5]) rfl ?_
  have hg := HG2.out
  have hbw4 : Below w.heap.size w w4 := HBW.out.trans (HBE.out.mono HBW.out.size)
  have hbW : Below w.heap.size w W := by
    rw [hW]
    exact ((((((((hbw4.setCell (p := ⟨gb, j, none⟩) (by show _ ≤ gb; have := HGB.out; omega) _).setCell (p := ⟨gs, i, none⟩) (by show _ ≤ gs; omega) _).setCell (p := ⟨g2, 0, none⟩) (by show _ ≤ g2; omega) _).setCell (p := ⟨g2 + 1, 0, none⟩) (by show _ ≤ g2 + 1; omega) _).setCell (p := ⟨g2 + 1, 1, none⟩) (by show _ ≤ g2 + 1; omega) _).setCell (p := ⟨g2 + 1, 2, none⟩) (by show _ ≤ g2 + 1; omega) _).setCell (p := ⟨g2 + 1, 3, none⟩) (by show _ ≤ g2 + 1; omega) _).setCell (p := ⟨g2 + 1, 4, none⟩) (by show _ ≤ g2 + 1; omega) _).setCell (p := ⟨g2 + 1, 5, none⟩) (by show _ ≤ g2 + 1; omega) _
  have htail : ∀ k, k ≠ g2 → k ≠ g2 + 1 → W.heap[k]? = ((w4.setCell ⟨gb, j, none⟩ (Value.int IntKind.u8 ↑v.toNat)).setCell ⟨gs, i, none⟩ (Value.slice (some ⟨gb, 0, none⟩) 64 cb)).heap[k]? := by
    intro k h1 h2
    rw [hW]
    exact (Below.heap_setCell _ _ _ k h2).trans ((Below.heap_setCell _ _ _ k h2).trans ((Below.heap_setCell _ _ _ k h2).trans ((Below.heap_setCell _ _ _ k h2).trans ((Below.heap_setCell _ _ _ k h2).trans ((Below.heap_setCell _ _ _ k h2).trans (Below.heap_setCell _ _ _ k h1))))))
  have hrow : W.ownsRow (g2 + 1 + 1) 28 1 (.slice (some ⟨gs, 0, none⟩) N capS) N ((qs.map (·.2)).set i (.slice (some ⟨gb, 0, none⟩) 64 cb)) := by
    have h1 : (w4.setCell ⟨gb, j, none⟩ (Value.int IntKind.u8 ↑v.toNat)).ownsRow (g2 + 1 + 1) 28 1 (.slice (some ⟨gs, 0, none⟩) N capS) N (qs.map (·.2)) :=
      own_same HOG.out (fun k hk => by
        have : gs = k := by simpa [Value.ownBlock] using hk
        subst this
        exact Below.heap_setCell _ _ _ _ (fun e => n1 e.symm))
    refine own_same (h1.stored i (.slice (some ⟨gb, 0, none⟩) 64 cb)).1 (fun k hk => ?_)
    have : gs = k := by simpa [Value.ownBlock] using hk
    subst this
    exact htail _ n4 n5
  have hbyt : W.ownsRow w2.heap.size 5 1 (.slice (some ⟨gb, 0, none⟩) 64 cb) 64 (bvs (l.set j v)) := by
    have h1 := (HOB.out.stored j (bv v)).1
    have e : (bvs l).set j (bv v) = bvs (l.set j v) := by simp [bvs, List.map_set]
    rw [e] at h1
    have h2 := own_same (w' := (w4.setCell ⟨gb, j, none⟩ (Value.int IntKind.u8 ↑v.toNat)).setCell ⟨gs, i, none⟩ (Value.slice (some ⟨gb, 0, none⟩) 64 cb)) h1 (fun k hk => by
      have : gb = k := by simpa [Value.ownBlock] using hk
      subst this
      exact Below.heap_setCell _ _ _ _ n1)
    refine own_same h2 (fun k hk => ?_)
    have : gb = k := by simpa [Value.ownBlock] using hk
    subst this
    exact htail _ n2 n3
  have hlen : (l.set j v).length = 64 := by rw [List.length_set]; exact HL64.out
  have hRA : RA A W (.slice (some ⟨gb, 0, none⟩) 64 cb) (l.set j v) := by
    refine ⟨RB.own (base := w2.heap.size) (e := 5) (by rw [hlen]; exact hbyt), fun _ k hk ha => ?_⟩
    have : gb = k := by simpa [Value.ownBlock] using hk
    subst this
    have := HA.out _ ha
    have := HGB.out
    omega
  refine ⟨_, rfl, ⟨_, _, lf, by rw [← HF.out], ?_, HL.out.below hbW, HLF.out⟩, hbW⟩
  refine ⟨qs.set i (l.set j v, .slice (some ⟨gb, 0, none⟩) 64 cb), ?_, ?_, fun q hq => ?_⟩
  · rw [List.map_set, HQ1.out, HL9.out]
  · rw [List.map_set, List.length_set, ← HN.out]
    exact Row.own hrow (fun k hk _ ha => by have := HA.out k ha; omega)
  · rcases List.mem_or_eq_of_mem_set hq with hq | rfl
    · exact (HQ2.out q hq).fr (D := fun _ => False) (Fr.of_below hbW) (fun _ h => h.elim) (fun _ h => .inl h)
    · exact hRA
/-- Spoil, of the document's own. -/
theorem refspoil_any {A : Nat → Prop} {w : World} {tv : Value} {s : Sim} (i a : Int) (v : UInt8) (h : TR A w tv s) (hok : OK s) (hA : ∀ k, A k → k < w.heap.size) :
    Calls Try.prog 33 #[tv, .int .i64 i, .int .i64 a, bv v] w (Made2 A w (s.spoil i a v) (.bool (s.can i a))) := by
  cases hc : s.can i a with
  | false =>
    have e : s.spoil i a v = s := by simp [Sim.spoil, hc]
    rw [e]
    exact refspoil_no i a v h hc
  | true =>
    have e : s.spoil i a v = { s with firm := s.firm.set i.toNat ((s.firm.getD i.toNat []).set a.toNat v) } := by simp [Sim.spoil, hc]
    rw [e]
    simp only [Sim.can, Bool.and_eq_true, decide_eq_true_eq, Sim.has_iff] at hc
    obtain ⟨k, rfl⟩ : ∃ k : Nat, i = (k : Int) := ⟨i.toNat, by omega⟩
    obtain ⟨j, rfl⟩ : ∃ j : Nat, a = (j : Int) := ⟨a.toNat, by omega⟩
    exact refspoil_yes k j v h hok hA (by omega) (by omega)
end Go.Proofs.Ytpaahbohbnfibaa
