/-
  The contract of the document's own Crash.
-/
import Derived.Test.YtpaahbohbnfibaaRefR
import Derived.Test.YtpaahbohbnfibaaCrash
namespace Go.Proofs.Ytpaahbohbnfibaa
open Go.RowKit Go.Rst Go.Dv
/-- Marks that came in, whatever lies where. -/
abbrev KW (w : World) (v : Value) (K : List Bool) : Prop := KB (fun _ => False) w v K
theorem KB.at_ {D : Nat → Prop} {w : World} {AK : Option Addr} {cK nK k : Nat} {K : List Bool} (h : KB D w (.slice AK nK cK) K) (hn : nK = K.length) :
    (K.getD k false = false ∧ (¬ k < nK ∨ (k < nK ∧ ∃ b off, AK = some ⟨b, off, none⟩ ∧ b < w.heap.size ∧ w.cell? ⟨b, off + k, none⟩ = some (.bool false)))) ∨
    (K.getD k false = true ∧ k < nK ∧ ∃ b off, AK = some ⟨b, off, none⟩ ∧ b < w.heap.size ∧ w.cell? ⟨b, off + k, none⟩ = some (.bool true)) := by
  subst hn
  obtain ⟨A', c', he, h1⟩ := h
  injection he with he _ _
  by_cases hkn : k < K.length
  · have e : K.getD k false = K[k] := by rw [List.getD_eq_getElem?_getD, List.getElem?_eq_getElem hkn]; rfl
    rcases h1 with h1 | ⟨b, off, h1, hb, _, hc⟩
    · rw [h1] at hkn; simp at hkn
    · have hck := hc k hkn
      cases hv : K[k] with
      | false => rw [hv] at hck; exact .inl ⟨by rw [e, hv], .inr ⟨hkn, b, off, by rw [he, h1], hb, hck⟩⟩
      | true => rw [hv] at hck; exact .inr ⟨by rw [e, hv], hkn, b, off, by rw [he, h1], hb, hck⟩
  · exact .inl ⟨by rw [List.getD_eq_getElem?_getD, List.getElem?_eq_none (by omega)]; rfl, .inl hkn⟩
/-- The rows that are under way: the values, and what each reads as in the world ahead. -/
def Und (A : Nat → Prop) (w : World) (B : Nat) (wr : World) (v : Value) (F : List (List UInt8)) : Prop :=
  ∃ qs : List (List UInt8 × Value), qs.map (·.1) = F ∧ wr.ownsRow B 28 1 v F.length (qs.map (·.2)) ∧ ∀ q ∈ qs, RA A w q.2 q.1
theorem Und.set_ {A : Nat → Prop} {w wr : World} {B g n c i : Nat} {F : List (List UInt8)} {u : Value} {l : List UInt8} (h : Und A w B wr (.slice (some ⟨g, 0, none⟩) n c) F) (hn : n = F.length) (hu : RA A w u l) :
    Und A w B (wr.setCell ⟨g, i, none⟩ u) (.slice (some ⟨g, 0, none⟩) n c) (F.set i l) := by
  subst hn
  obtain ⟨qs, rfl, h2, h3⟩ := h
  refine ⟨qs.set i (l, u), by rw [List.map_set], ?_, fun q hq => ?_⟩
  · have := (h2.stored i u).1
    rw [List.length_set, List.map_set]
    exact this
  · rcases List.mem_or_eq_of_mem_set hq with hq | rfl
    · exact h3 q hq
    · exact hu
theorem Und.drew {A : Nat → Prop} {w wr : World} {B : Nat} {v : Value} {F : List (List UInt8)} (h : Und A w B wr v F) : Und A w B wr.drew v F := h
theorem Und.sr {A A' : Nat → Prop} {w wr : World} {B : Nat} {v : Value} {F : List (List UInt8)} (h : Und A w B wr v F) (hb : Below w.heap.size w wr) (hA : ∀ k, A' k → A k ∨ w.heap.size ≤ k) (hB : ∀ k, A' k → k < B) : SR A' wr v F := by
  obtain ⟨qs, h1, h2, h3⟩ := h
  exact ⟨qs, h1, Row.own (A := A') h2 (fun k hk _ ha => by have := hB k ha; omega), fun q hq => (h3 q hq).fr (D := fun _ => False) (Fr.of_below hb) (fun _ h => h.elim) hA⟩
theorem LR.nil_ (A : Nat → Prop) (w : World) : LR A w (.slice none 0 0) [] := ⟨[], rfl, ⟨none, 0, rfl, Nat.le_refl _, Nat.zero_le _, .inl rfl⟩, fun p hp => by cases hp⟩
set_option maxRecDepth 100000 in
set_option maxHeartbeats 2000000 in
theorem refcrash_any {A : Nat → Prop} {w : World} {tv kv : Value} {s : Sim} (K : List Bool) (h : TR A w tv s) (hok : OK s) (hA : ∀ k, A k → k < w.heap.size) (hLl : s.nw ≤ 100000) (hK : KW w kv K) :
    Calls Try.prog 31 #[tv, kv] w (Made A w (s.crash K)) := by
  have HKB := Lib.hid hK
  obtain ⟨AK, cK, rfl, _⟩ := hK
  obtain ⟨nK, hnK⟩ : ∃ nK, nK = K.length := ⟨_, rfl⟩
  rw [← hnK] at HKB ⊢
  have HnK := Lib.hid hnK
  obtain ⟨vS, vL, lf, rfl, hS, hL, hlf⟩ := h
  obtain ⟨aS, cS, rfl, hc⟩ := hS.shape
  obtain ⟨aL, cL, rfl, _⟩ := hL.shape
  have hl9 : s.loose.length ≤ 100000 := Nat.le_trans hok.w hLl
  have hn9 := hok.n
  have HS := Lib.hid hS
  have HL := Lib.hid hL
  have HO := Lib.hid hok
  have HA := Lib.hid hA
  obtain ⟨N, hN⟩ : ∃ N, N = s.firm.length := ⟨_, rfl⟩
  rw [← hN] at hc hn9
  have HN := Lib.hid hN
  clear hS hL hlf hok hA hnK
  rw [← hN]
  clear hN
  obtain ⟨f0, hf0⟩ : ∃ f0, f0 = s.fuse.isSome := ⟨_, rfl⟩
  rw [← hf0]
  clear hf0
  have hSsrc : ∃ qs : List (List UInt8 × Value), qs.map (·.1) = s.firm ∧ (∀ q ∈ qs, RA A w q.2 q.1) ∧ ∀ w', Below w.heap.size w w' → Src Try.prog 1 35 (.slice aS N cS) N (qs.map (·.2)) w' := by
    obtain ⟨qs, h1, h2, h3⟩ := HS.out
    refine ⟨qs, h1, h3, fun w' hb => ?_⟩
    have h4 := h2.fr (D := fun _ => False) (A' := A) (Fr.of_below hb) (fun _ h => h.elim) (fun _ h => .inl h)
    rw [← HN.out] at h4
    refine h4.src (by rw [HN.out, ← h1]; simp) (by decide) Try.underlying35 (fun x hx => ?_)
    obtain ⟨q, hq, rfl⟩ := List.mem_map.1 hx
    exact (h3 q hq).one
  obtain ⟨qs, hq1, hq2, hsrc⟩ := hSsrc
  have HQ1 := Lib.hid hq1
  have HQ2 := Lib.hid hq2
  have HSR := Lib.hid hsrc
  clear hq1 hq2 hsrc
  have HLM := Lib.hid (show 0 + N ≤ maxLen by unfold maxLen; omega)
  have HLB := Lib.hid (show (0 + N) * 24 ≤ 140737488355328 by omega)
  go_enter Try.func31, Try.ntmps31
  go_wp2_with (at_builtin; refine wpList_own rfl (.tmp 7) (.tmp 9) 35 35 rfl (w.heap.size + 1 + 1) 28 (.slice none 0 0) 1 24 Try.underlying35 info28 rfl rfl (World.ownsRow_nil _ _ _ _) rfl (HSR.out _ (below2 w _ _)) (Below.refl (w.heap.size + 1 + 1) _) (Nat.le_refl _) HLM.out HLB.out (by simp) ?_)
  intro vs w2 hown hbel _
  obtain ⟨g2, hg2⟩ : ∃ g2, g2 = w.heap.size := ⟨_, rfl⟩
  have hU : Und A w (g2 + 1 + 1) w2 vs s.firm := by
    refine ⟨qs, HQ1.out, ?_, HQ2.out⟩
    rw [← HN.out, hg2]
    exact hown
  obtain ⟨W1, hW1⟩ : ∃ W1, W1 = ((w.alloc (Obj.cells #[Value.slice aS N cS, Value.slice aL s.loose.length cL, Value.int IntKind.i64 ↑s.nw, Value.int IntKind.i64 ↑s.nf, Value.bool f0, Value.int IntKind.i64 lf] 38)).alloc (Obj.cells #[Value.slice none 0 0, Value.slice none 0 0, Value.int IntKind.i64 0, Value.int IntKind.i64 0, Value.bool false, Value.int IntKind.i64 0] 38)) := ⟨_, rfl⟩
  rw [← hW1] at hbel
  have hb1 : Blk W1 g2 38 #[Value.slice aS N cS, Value.slice aL s.loose.length cL, Value.int IntKind.i64 ↑s.nw, Value.int IntKind.i64 ↑s.nf, Value.bool f0, Value.int IntKind.i64 lf] := by rw [hW1, hg2]; exact heap_alloc2_old w _ _
  have hb2 : Blk W1 (g2 + 1) 38 #[Value.slice none 0 0, Value.slice none 0 0, Value.int IntKind.i64 0, Value.int IntKind.i64 0, Value.bool false, Value.int IntKind.i64 0] := by rw [hW1, hg2]; exact heap_alloc2_new w _ _
  have hbw : Below w.heap.size w w2 := by
    have : Below w.heap.size w W1 := by rw [hW1]; exact below2 w _ _
    exact this.trans (hbel.mono (by omega))
  have hs2 : g2 + 1 + 1 ≤ w2.heap.size := by
    have h1 := hbel.size
    have h2 : W1.heap.size = w.heap.size + 1 + 1 := by rw [hW1]; simp
    omega
  have HB1 := Lib.hid (hb1.below hbel (by omega))
  have HB2 := Lib.hid (hb2.below hbel (by omega))
  have HBW := Lib.hid hbw
  have HU := Lib.hid hU
  have HS2 := Lib.hid hs2
  have HK2 := Lib.hid (HKB.out.fr (Fr.of_below hbw) (fun _ _ h => h))
  have HG2 := Lib.hid hg2
  obtain ⟨aT, cs, rfl, hcs⟩ := own_shape hown
  rw [← hg2]
  clear hW1 hb1 hb2 hbw hU hg2 hown hbel hs2
  go_wp2
  go_loopw [6] (fun i wr => ∃ k : Nat, k ≤ s.loose.length ∧ i = .int .i64 k ∧ Und A w (g2 + 1 + 1) wr (.slice aT N cs) (kept s.firm s.loose K k) ∧ Below (g2 + 1 + 1) w2 wr) (fun i _ => s.loose.length - (intOf i).toNat)
  case atStart => exact ⟨0, Nat.zero_le _, rfl, HU.out, Below.refl _ _⟩
  case round =>
    obtain ⟨k, hk, rfl, hu, hbel⟩ := hrel
    have HB1r := Lib.hid (HB1.out.below hbel (by omega))
    have hc1 : wr.cell? ⟨g2, 1, none⟩ = some (.slice aL s.loose.length cL) := HB1r.out.cell 1
    have hbw : Below w.heap.size w wr := HBW.out.trans (hbel.mono (by have := HG2.out; omega))
    have HKr := Lib.hid (HKB.out.fr (Fr.of_below hbw) (fun _ _ h => h))
    have HLr := Lib.hid (HL.out.below hbw)
    have HBWr := Lib.hid hbw
    clear hbw
    by_cases hlt : k < s.loose.length
    · have hcase := HKr.out.at_ (k := k) HnK.out
      rcases hcase with ⟨hv, hcase⟩ | ⟨hv, hkn, bK, oK, hAK, hbK, hcK⟩
      · have e : kept s.firm s.loose K (k + 1) = kept s.firm s.loose K k := by rw [kept, if_neg (by rw [hv]; decide)]
        have HE := Lib.hid e
        have HUr := Lib.hid hu
        have HBr := Lib.hid hbel
        clear e hv hu hbel
        rcases hcase with hkn | ⟨hkn, bK, oK, hAK, hbK, hcK⟩
        · go_wp2
          go_roundw
          case rel => exact ⟨k + 1, by omega, by go_num, by rw [HE.out]; exact HUr.out, HBr.out⟩
          case measure => simp [intOf]; omega
        · subst hAK
          go_wp2
          go_roundw
          case rel => exact ⟨k + 1, by omega, by go_num, by rw [HE.out]; exact HUr.out, HBr.out⟩
          case measure => simp [intOf]; omega
      · have hx := HO.out.wat_ hlt
        obtain ⟨bL, uL, hAL, hbL, _, hcx1, hcx2, hRL⟩ := HLr.out.at_ hlt
        obtain ⟨_, uL', hAL', _, _, _, hcy2, hRL0⟩ := HL.out.at_ hlt
        have huu : uL' = uL := by
          rw [hAL] at hAL'
          injection hAL' with hAL'
          injection hAL' with hAL' _ _
          subst hAL'
          have hlt2 : bL < w.heap.size := World.block_lt_of_cell? w _ hcy2
          have := (HBWr.out.cell (p := ⟨bL, k * 2 + 1, none⟩) hlt2).trans hcy2
          rw [hcx2] at this
          injection this with this
          exact this.symm
        rw [huu] at hRL0
        have e : kept s.firm s.loose K (k + 1) = (kept s.firm s.loose K k).set (wat s.loose k).1 (wat s.loose k).2 := by rw [kept, if_pos hv]
        obtain ⟨x, hxe⟩ : ∃ x, x = wat s.loose k := ⟨_, rfl⟩
        rw [← hxe] at hx hcx1 hRL0 e
        have hk9 := kept_length s.firm s.loose K k
        have hxN : x.1 < N := by rw [HN.out]; exact hx.1
        have hown : ∃ gs, aT = some ⟨gs, 0, none⟩ ∧ g2 + 1 + 1 ≤ gs ∧ (∃ y, wr.cell? ⟨gs, x.1, none⟩ = some y) ∧ wr.frozen? ⟨gs, x.1, none⟩ = false := by
          obtain ⟨qs', h1, h2, _⟩ := hu
          have hl1 : (qs'.map (·.2)).length = N := by rw [HN.out, ← hk9, ← h1]; simp
          rw [hk9, ← HN.out] at h2
          rcases h2.2 with ⟨_, h0⟩ | ⟨g, cap, cur, he, hge, _⟩
          · omega
          · injection he with he _ he3
            subst he
            refine ⟨g, rfl, hge, ⟨(qs'.map (·.2))[x.1]'(by omega), ?_⟩, h2.frozenAt _⟩
            rw [h2.cellAt x.1 (by omega), List.getElem?_eq_getElem (by omega)]
        obtain ⟨gs, hgs, hgs2, ⟨y0, hy0⟩, hfr⟩ := hown
        subst hAK
        subst hAL
        subst hgs
        obtain ⟨aV, cV, huV, _, _, _⟩ := id hRL0.1
        obtain ⟨nV, hnV⟩ : ∃ nV, nV = x.2.length := ⟨_, rfl⟩
        rw [← hnV] at huV
        subst huV
        have HE := Lib.hid e
        have HUr := Lib.hid hu
        have HBr := Lib.hid hbel
        have HRL := Lib.hid hRL0
        have HGs := Lib.hid hgs2
        have hx0 : (0 : Int) ≤ ((x.1 : Nat) : Int) := by omega
        have hx1 : ((x.1 : Nat) : Int) < (N : Int) := by omega
        have hk0 : (0 : Int) ≤ (k : Int) := by omega
        have hk1 : (k : Int) < (s.loose.length : Int) := by omega
        have HK9 := Lib.hid hk9
        unfold iv at hcx1
        clear e hv hu hbel hRL0 hgs2 hRL hx hxe hnV huu hcy2 hAL' hk9 hxN
        go_wp2
        go_region
        all_goals
          go_wp2
          go_roundw
          case rel =>
            refine ⟨k + 1, by omega, by go_num, ?_, ?_⟩
            · rw [HE.out]
              have h9 := HUr.out.set_ (i := x.1) (by rw [HK9.out, HN.out]) HRL.out
              exact h9
            · exact (HBr.out.setCell (p := ⟨gs, x.1, none⟩) HGs.out _).trans ⟨rfl, rfl, rfl, Nat.le_refl _, fun _ _ => rfl⟩
          case measure => simp [intOf]; omega
    · obtain rfl : k = s.loose.length := by omega
      have HB2r := Lib.hid (HB2.out.below hbel (by omega))
      have hlf : s.loose.length = s.loose.length := rfl
      have hSR : SR (fun k => A k ∨ k = g2 ∨ k = g2 + 1) wr (.slice aT N cs) (s.crash K).firm := hu.sr HBWr.out (fun k hk => by
        have := HG2.out
        rcases hk with hk | hk | hk
        · exact .inl hk
        · exact .inr (by omega)
        · exact .inr (by omega)) (fun k hk => by
        have := HG2.out
        rcases hk with hk | hk | hk
        · have := HA.out k hk; omega
        · omega
        · omega)
      have HSR2 := Lib.hid hSR
      have HBr := Lib.hid hbel
      have b0 : wr.cell? ⟨g2, 0, none⟩ = some (.slice aS N cS) := HB1r.out.cell 0
      have b2 : wr.cell? ⟨g2, 2, none⟩ = some (.int .i64 (s.nw : Int)) := HB1r.out.cell 2
      have b3 : wr.cell? ⟨g2, 3, none⟩ = some (.int .i64 (s.nf : Int)) := HB1r.out.cell 3
      have b4 : wr.cell? ⟨g2, 4, none⟩ = some (.bool f0) := HB1r.out.cell 4
      have b5 : wr.cell? ⟨g2, 5, none⟩ = some (.int .i64 lf) := HB1r.out.cell 5
      have bf : ∀ i, wr.frozen? ⟨g2, i, none⟩ = false := HB1r.out.frozen
      have d0 : wr.cell? ⟨g2 + 1, 0, none⟩ = some (.slice none 0 0) := HB2r.out.cell 0
      have d1 : wr.cell? ⟨g2 + 1, 1, none⟩ = some (.slice none 0 0) := HB2r.out.cell 1
      have d2 : wr.cell? ⟨g2 + 1, 2, none⟩ = some (.int .i64 0) := HB2r.out.cell 2
      have d3 : wr.cell? ⟨g2 + 1, 3, none⟩ = some (.int .i64 0) := HB2r.out.cell 3
      have d4 : wr.cell? ⟨g2 + 1, 4, none⟩ = some (.bool false) := HB2r.out.cell 4
      have d5 : wr.cell? ⟨g2 + 1, 5, none⟩ = some (.int .i64 0) := HB2r.out.cell 5
      have df : ∀ i, wr.frozen? ⟨g2 + 1, i, none⟩ = false := HB2r.out.frozen
      clear hu hbel hlf hSR
      go_wp2
      refine bodyPost_ret (v := .agg #[.slice aT N cs, .slice none 0 0, .int .i64 (s.nw : Int), .int .i64 (s.nf : Int), .bool false, .int .i64 0]) (by simp [results, Try.results31, go_sem, d0, d1, d2, d3, d4, d5]) rfl ?_
      have hg := HG2.out
      have hfr : ∀ (D : Nat → Prop) (_ : D g2) (_ : D (g2 + 1)) (u0 u1 u2 u3 v0 v1 v2 v3 v4 v5 : Value), Fr D wr ((((((((((wr.setCell ⟨g2, 0, none⟩ u0).setCell ⟨g2, 1, none⟩ u1).setCell ⟨g2, 4, none⟩ u2).setCell ⟨g2, 5, none⟩ u3).setCell ⟨g2 + 1, 0, none⟩ v0).setCell ⟨g2 + 1, 1, none⟩ v1).setCell ⟨g2 + 1, 2, none⟩ v2).setCell ⟨g2 + 1, 3, none⟩ v3).setCell ⟨g2 + 1, 4, none⟩ v4).setCell ⟨g2 + 1, 5, none⟩ v5) :=
        fun D h1 h2 u0 u1 u2 u3 v0 v1 v2 v3 v4 v5 => ((((((((((Fr.refl D wr).setCell (p := ⟨g2, 0, none⟩) (.inl h1) u0).setCell (p := ⟨g2, 1, none⟩) (.inl h1) u1).setCell (p := ⟨g2, 4, none⟩) (.inl h1) u2).setCell (p := ⟨g2, 5, none⟩) (.inl h1) u3).setCell (p := ⟨g2 + 1, 0, none⟩) (.inl h2) v0).setCell (p := ⟨g2 + 1, 1, none⟩) (.inl h2) v1).setCell (p := ⟨g2 + 1, 2, none⟩) (.inl h2) v2).setCell (p := ⟨g2 + 1, 3, none⟩) (.inl h2) v3).setCell (p := ⟨g2 + 1, 4, none⟩) (.inl h2) v4).setCell (p := ⟨g2 + 1, 5, none⟩) (.inl h2) v5
      refine ⟨_, rfl, ⟨_, _, 0, rfl, HSR2.out.fr (D := fun k => k = g2 ∨ k = g2 + 1) (hfr _ (.inl rfl) (.inr rfl) _ _ _ _ _ _ _ _ _ _) (fun k hk => .inr hk) (fun k hk => .inl (.inl hk)), LR.nil_ _ _, fun k hk => (by cases hk)⟩, ?_⟩
      refine HBWr.out.trans ((hfr (fun k => k = g2 ∨ k = g2 + 1) (.inl rfl) (.inr rfl) _ _ _ _ _ _ _ _ _ _).below (fun k hk => by rcases hk with rfl | rfl <;> omega) HBWr.out.size)
end Go.Proofs.Ytpaahbohbnfibaa
