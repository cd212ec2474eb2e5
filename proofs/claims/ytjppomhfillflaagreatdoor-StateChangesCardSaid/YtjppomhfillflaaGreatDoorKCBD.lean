/-
  What came in, opened, in the first form: a state, a subscription, and what each may take up. No condition beyond those that each theorem states.
-/
import Derived.Deep.Slices
import Derived.WalkKit
import Derived.ProofKit
import Derived.OpenShut
import Derived.SizedLaws
import Derived.Test.YtjppomhfillflaaGreatDoorKCG
import Derived.Test.YtjppomhfillflaaGreatDoorKCBC
set_option linter.unusedVariables false
namespace Go.Proofs.YtjppomhfillflaaGreatDoor.First
open Go.Rst Go.Tp Go.Ts
open Go.ChangeShapes Go.WideShapes Go.ChangeAt Go.RowKit
set_option linter.unusedVariables false
set_option maxRecDepth 10000
section
variable {H : Type}
theorem weightsAll_mem {H : Type} (P : Program) (e : TypeId) : ∀ (ds : List (DataW H)) (d : DataW H), d ∈ ds → ∀ n ∈ d.weights P e, n ∈ DataW.weightsAll P e ds
  | [], d, h, _, _ => by cases h
  | x :: ds, d, h, n, hn => by
    unfold DataW.weightsAll
    rcases List.mem_cons.1 h with rfl | h
    · exact List.mem_append_left _ hn
    · exact List.mem_append_right _ (weightsAll_mem P e ds d h n hn)
theorem pick {α : Type} {Q : Nat → α → Prop} {len : Nat} (h : ∀ i, i < len → ∃ x, Q i x) :
    ∀ n, n ≤ len → ∃ xs : List α, xs.length = n ∧ ∀ j (hj : j < xs.length), Q j xs[j]
  | 0, _ => ⟨[], rfl, fun j hj => by simp at hj⟩
  | n + 1, hn => by
    obtain ⟨xs, hl, hq⟩ := pick h n (by omega)
    obtain ⟨x, hx⟩ := h n (by omega)
    refine ⟨xs ++ [x], by simp [hl], fun j hj => ?_⟩
    rw [List.length_append] at hj
    simp only [List.length_cons, List.length_nil] at hj
    by_cases hjn : j < xs.length
    · rw [List.getElem_append_left hjn]
      exact hq j hjn
    · have e : j = xs.length := by omega
      subst e
      rw [List.getElem_append_right (Nat.le_refl _)]
      simp only [Nat.sub_self, List.getElem_cons_zero]
      rw [hl]
      exact hx
end
theorem rl_of {α : Type} {sz : Nat} {C : World → α → List Value → Prop} {W : World} {a : Addr} {len cap : Nat} {xs : List α} (hx : xs.length = len) (hl : len ≤ cap) (hm : cap ≤ maxLen) (hsz : 0 < sz)
    (h : ∀ j (hj : j < xs.length), ∃ cs, C W xs[j] cs ∧ cs.length = sz ∧ ∀ i, i < sz → W.cell? (a.add (j * sz + i)) = cs[i]?) : RL sz C W (.slice (some a) len cap) xs := by
  refine ⟨some a, cap, by rw [hx], by omega, hm, ?_⟩
  rcases Nat.eq_zero_or_pos xs.length with h0 | h0
  · exact .inl (List.eq_nil_of_length_eq_zero h0)
  · obtain ⟨b, off, spot⟩ := a
    obtain ⟨cs, _, hl0, hc0⟩ := h 0 h0
    have hc := hc0 0 hsz
    rw [List.getElem?_eq_getElem (by omega)] at hc
    have hspot : spot = none := by simpa [Addr.add] using World.cell?_spot hc
    subst hspot
    refine .inr ⟨b, off, rfl, ?_, fun j hj => ?_⟩
    · have h1 := block_lt_of_cell hc
      rw [Addr.add_lit] at h1
      exact h1
    · obtain ⟨cs, hC, hl1, hc1⟩ := h j hj
      refine ⟨cs, hC, fun i hi => ?_⟩
      have := hc1 i (by omega)
      rw [Addr.add_lit, List.getElem?_eq_getElem hi] at this
      rw [← this, Nat.add_assoc]
theorem str_sv (s : ByteArray) : Value.string s = sv s.data.toList := by
  cases s
  simp [sv]
section
variable {H : Type} {enc : TypeId × Value → H} {W : World} {base : Nat} {spare : Nat → Bool} {held : Bool}
theorem c3_ : Tryz.prog.cellsOf 3 = 1 := by kernel_rfl
theorem c4_ : Tryz.prog.cellsOf 4 = 1 := by kernel_rfl
theorem c9_ : Tryz.prog.cellsOf 9 = 1 := by kernel_rfl
theorem cLI : Tryz.prog.cellsOf 25 = 1 := by kernel_rfl
theorem cLM : Tryz.prog.cellsOf 26 = 1 := by kernel_rfl
theorem cLS : Tryz.prog.cellsOf 22 = 1 := by kernel_rfl
theorem cTM : Tryz.prog.cellsOf 38 = 8 := by kernel_rfl
theorem b3_ : Tryz.prog.bytesOf 3 = 8 := by kernel_rfl
theorem bTM : Tryz.prog.bytesOf 38 = 88 := by kernel_rfl
theorem bTS : Tryz.prog.bytesOf 28 = 144 := by kernel_rfl
theorem cTS : Tryz.prog.cellsOf 28 = 10 := by kernel_rfl
theorem open_text {fuel : Nat} {v : Value} {x : DataW H × List MemPlace} (h : DataW.trod enc Tryz.prog W base spare held fuel 9 [v] = some x) : ∃ l : List UInt8, v = sv l := by
  obtain ⟨s, hs, hx, _⟩ := DataW.trod_string Tryz.underlying9 h
  simp only [List.cons.injEq, and_true] at hs
  subst hs
  exact ⟨s.data.toList, str_sv s⟩
theorem open_num {fuel : Nat} {v : Value} {x : DataW H × List MemPlace} (h : DataW.trod enc Tryz.prog W base spare held fuel 3 [v] = some x) : ∃ n : Int, v = .int .i64 n ∧ n ≤ 9223372036854775807 := by
  obtain ⟨n, hn, _, hw⟩ := DataW.trod_int Tryz.underlying3 h
  simp only [List.cons.injEq, and_true] at hn
  simp only [Lit.wf, Bool.and_eq_true, decide_eq_true_eq] at hw
  have mx : IntKind.i64.max = 9223372036854775807 := rfl
  exact ⟨n, hn, by omega⟩
theorem open_truth {fuel : Nat} {v : Value} {x : DataW H × List MemPlace} (h : DataW.trod enc Tryz.prog W base spare held fuel 4 [v] = some x) : ∃ b : Bool, v = .bool b := by
  obtain ⟨b, hb, _⟩ := DataW.trod_bool Tryz.underlying4 h
  simp only [List.cons.injEq, and_true] at hb
  exact ⟨b, hb⟩
theorem open_nums {fuel : Nat} {v : Value} {x : DataW H × List MemPlace} (h : DataW.trod enc Tryz.prog W base spare held fuel 25 [v] = some x) (hw : ∀ n ∈ x.1.weights Tryz.prog 25, n ≤ reachBytes) : ∃ l : List Int, Go.Ts.RI W v l ∧ l.length ≤ 17592186043904 := by
  have hr := reach_le
  rcases open_ints Tryz.underlying25 Tryz.underlying3 (by kernel_rfl) h with ⟨hcs, hx⟩ | ⟨a, len, cap, zs, hcs, _, hl, hm, hz, hx, hcell, hwz⟩
  · simp only [List.cons.injEq, and_true] at hcs
    subst hcs
    exact ⟨[], RL.nil_ _ _ _ (Nat.zero_le _), by simp⟩
  · simp only [List.cons.injEq, and_true] at hcs
    subst hcs
    have hzl : len ≤ zs.length := by rw [hz]; split <;> omega
    refine ⟨zs.take len, rl_of (by simp; omega) hl hm (by decide) (fun j hj => ⟨[.int .i64 (zs.take len)[j]], rfl, rfl, fun i hi => ?_⟩), ?_⟩
    · obtain rfl : i = 0 := by omega
      simp only [List.length_take] at hj
      have := hcell j (by omega)
      rw [Nat.mul_one, Nat.add_zero, this]
      simp [List.getElem_take, List.getD_eq_getElem?_getD, List.getElem?_eq_getElem (show j < zs.length by omega)]
    · subst hx
      have h1 := hw (((lits (H := H) .i64 (zs.take len)).length + (lits (H := H) .i64 (zs.drop len)).length) * Tryz.prog.bytesOf 3) (by simp [DataW.weights, Tryz.underlying25])
      rw [b3_] at h1
      simp only [lits, List.length_map] at h1
      omega
theorem open_msg {fuel : Nat} {cs : List Value} {x : DataW H × List MemPlace} (hlen : cs.length = 8) (h : DataW.trod enc Tryz.prog W base spare held fuel 38 cs = some x) : ∃ m : Msg, cs = msgC m := by
  obtain ⟨ys, k, _, hx, _, hxl, hf⟩ := DataW.trod_struct Tryz.underlying38 h
  match cs, hlen with
  | [c0, c1, c2, c3, c4, c5, c6, c7], _ =>
    match ys, hxl with
    | [x0, x1, x2, x3, x4, x5, x6, x7], _ =>
      have g0 : DataW.trod enc Tryz.prog W base spare held k 3 (([c0, c1, c2, c3, c4, c5, c6, c7].drop 0).take (Tryz.prog.cellsOf 3)) = some x0 := hf 0 _ rfl
      rw [c3_] at g0
      have f0 : DataW.trod enc Tryz.prog W base spare held k 3 [c0] = some x0 := g0
      have g1 : DataW.trod enc Tryz.prog W base spare held k 9 (([c0, c1, c2, c3, c4, c5, c6, c7].drop 1).take (Tryz.prog.cellsOf 9)) = some x1 := hf 1 _ rfl
      rw [c9_] at g1
      have f1 : DataW.trod enc Tryz.prog W base spare held k 9 [c1] = some x1 := g1
      have g2 : DataW.trod enc Tryz.prog W base spare held k 9 (([c0, c1, c2, c3, c4, c5, c6, c7].drop 2).take (Tryz.prog.cellsOf 9)) = some x2 := hf 2 _ rfl
      rw [c9_] at g2
      have f2 : DataW.trod enc Tryz.prog W base spare held k 9 [c2] = some x2 := g2
      have g3 : DataW.trod enc Tryz.prog W base spare held k 3 (([c0, c1, c2, c3, c4, c5, c6, c7].drop 3).take (Tryz.prog.cellsOf 3)) = some x3 := hf 3 _ rfl
      rw [c3_] at g3
      have f3 : DataW.trod enc Tryz.prog W base spare held k 3 [c3] = some x3 := g3
      have g4 : DataW.trod enc Tryz.prog W base spare held k 3 (([c0, c1, c2, c3, c4, c5, c6, c7].drop 4).take (Tryz.prog.cellsOf 3)) = some x4 := hf 4 _ rfl
      rw [c3_] at g4
      have f4 : DataW.trod enc Tryz.prog W base spare held k 3 [c4] = some x4 := g4
      have g5 : DataW.trod enc Tryz.prog W base spare held k 4 (([c0, c1, c2, c3, c4, c5, c6, c7].drop 5).take (Tryz.prog.cellsOf 4)) = some x5 := hf 5 _ rfl
      rw [c4_] at g5
      have f5 : DataW.trod enc Tryz.prog W base spare held k 4 [c5] = some x5 := g5
      have g6 : DataW.trod enc Tryz.prog W base spare held k 9 (([c0, c1, c2, c3, c4, c5, c6, c7].drop 6).take (Tryz.prog.cellsOf 9)) = some x6 := hf 6 _ rfl
      rw [c9_] at g6
      have f6 : DataW.trod enc Tryz.prog W base spare held k 9 [c6] = some x6 := g6
      have g7 : DataW.trod enc Tryz.prog W base spare held k 3 (([c0, c1, c2, c3, c4, c5, c6, c7].drop 7).take (Tryz.prog.cellsOf 3)) = some x7 := hf 7 _ rfl
      rw [c3_] at g7
      have f7 : DataW.trod enc Tryz.prog W base spare held k 3 [c7] = some x7 := g7
      have ed : x.1 = .agg [x0.1, x1.1, x2.1, x3.1, x4.1, x5.1, x6.1, x7.1] := congrArg Prod.fst hx
      obtain ⟨n0, rfl, b0⟩ := open_num f0
      obtain ⟨l1, rfl⟩ := open_text f1
      obtain ⟨l2, rfl⟩ := open_text f2
      obtain ⟨n3, rfl, b3⟩ := open_num f3
      obtain ⟨n4, rfl, b4⟩ := open_num f4
      obtain ⟨t5, rfl⟩ := open_truth f5
      obtain ⟨l6, rfl⟩ := open_text f6
      obtain ⟨n7, rfl, b7⟩ := open_num f7
      exact ⟨⟨n0, l1, l2, n3, n4, t5, l6, n7⟩, rfl⟩
theorem open_msgs {fuel : Nat} {v : Value} {x : DataW H × List MemPlace} (h : DataW.trod enc Tryz.prog W base spare held fuel 26 [v] = some x) (hw : ∀ n ∈ x.1.weights Tryz.prog 26, n ≤ reachBytes) : ∃ l : List Msg, RM W v l ∧ (∀ m ∈ l, True) ∧ l.length ≤ 1599289640354 := by
  have hr := reach_le
  rcases Go.Deep.open_slice Tryz.underlying26 h with ⟨hcs, hx⟩ | ⟨a, len, cap, m, n, D, Pl, hcs, _, hl, hm, hmm, hx, hel⟩
  · simp only [List.cons.injEq, and_true] at hcs
    subst hcs
    exact ⟨[], RL.nil_ _ _ _ (Nat.zero_le _), fun _ h => (by cases h), by simp⟩
  · simp only [List.cons.injEq, and_true] at hcs
    subst hcs
    have hlm : len ≤ m := by rw [hmm]; split <;> omega
    subst hx
    obtain ⟨xs, hxl, hq⟩ := pick (Q := fun i y => (∃ cs, CM W y cs ∧ cs.length = 8 ∧ ∀ k, k < 8 → W.cell? (a.add (i * 8 + k)) = cs[k]?) ∧ True) (len := len) (fun i hi => by
      obtain ⟨cs, h1, h2⟩ := hel i (by omega)
      rw [cTM] at h1
      obtain ⟨_, hlen, hat⟩ := World.cells?_some h1
      obtain ⟨y, hy⟩ := open_msg hlen h2
      refine ⟨y, ⟨cs, hy, hlen, fun k hk => ?_⟩, trivial⟩
      rw [← hat k hk, Addr.add_add]) len (Nat.le_refl _)
    refine ⟨xs, rl_of hxl hl hm (by decide) (fun j hj => (hq j hj).1), fun z hz => ?_, ?_⟩
    · obtain ⟨j, hj, rfl⟩ := List.getElem_of_mem hz
      exact (hq j hj).2
    · have h1 := hw ((((List.range len).map D).length + ((List.range (m - len)).map fun j => D (len + j)).length) * Tryz.prog.bytesOf 38) (by simp [DataW.weights, Tryz.underlying26])
      rw [bTM] at h1
      simp only [List.length_map, List.length_range] at h1
      omega
theorem open_sub {fuel : Nat} {cs : List Value} {x : DataW H × List MemPlace} (hlen : cs.length = 10) (h : DataW.trod enc Tryz.prog W base spare held fuel 28 cs = some x) (hw : ∀ n ∈ x.1.weights Tryz.prog 28, n ≤ reachBytes) : ∃ y : Sub, CS W y cs ∧ Sized y := by
  obtain ⟨ys, k, _, hx, _, hxl, hf⟩ := DataW.trod_struct Tryz.underlying28 h
  match cs, hlen with
  | [c0, c1, c2, c3, c4, c5, c6, c7, c8, c9], _ =>
    match ys, hxl with
    | [x0, x1, x2, x3, x4, x5, x6, x7, x8, x9], _ =>
      have g0 : DataW.trod enc Tryz.prog W base spare held k 3 (([c0, c1, c2, c3, c4, c5, c6, c7, c8, c9].drop 0).take (Tryz.prog.cellsOf 3)) = some x0 := hf 0 _ rfl
      rw [c3_] at g0
      have f0 : DataW.trod enc Tryz.prog W base spare held k 3 [c0] = some x0 := g0
      have g1 : DataW.trod enc Tryz.prog W base spare held k 9 (([c0, c1, c2, c3, c4, c5, c6, c7, c8, c9].drop 1).take (Tryz.prog.cellsOf 9)) = some x1 := hf 1 _ rfl
      rw [c9_] at g1
      have f1 : DataW.trod enc Tryz.prog W base spare held k 9 [c1] = some x1 := g1
      have g2 : DataW.trod enc Tryz.prog W base spare held k 9 (([c0, c1, c2, c3, c4, c5, c6, c7, c8, c9].drop 2).take (Tryz.prog.cellsOf 9)) = some x2 := hf 2 _ rfl
      rw [c9_] at g2
      have f2 : DataW.trod enc Tryz.prog W base spare held k 9 [c2] = some x2 := g2
      have g3 : DataW.trod enc Tryz.prog W base spare held k 9 (([c0, c1, c2, c3, c4, c5, c6, c7, c8, c9].drop 3).take (Tryz.prog.cellsOf 9)) = some x3 := hf 3 _ rfl
      rw [c9_] at g3
      have f3 : DataW.trod enc Tryz.prog W base spare held k 9 [c3] = some x3 := g3
      have g4 : DataW.trod enc Tryz.prog W base spare held k 3 (([c0, c1, c2, c3, c4, c5, c6, c7, c8, c9].drop 4).take (Tryz.prog.cellsOf 3)) = some x4 := hf 4 _ rfl
      rw [c3_] at g4
      have f4 : DataW.trod enc Tryz.prog W base spare held k 3 [c4] = some x4 := g4
      have g5 : DataW.trod enc Tryz.prog W base spare held k 3 (([c0, c1, c2, c3, c4, c5, c6, c7, c8, c9].drop 5).take (Tryz.prog.cellsOf 3)) = some x5 := hf 5 _ rfl
      rw [c3_] at g5
      have f5 : DataW.trod enc Tryz.prog W base spare held k 3 [c5] = some x5 := g5
      have g6 : DataW.trod enc Tryz.prog W base spare held k 3 (([c0, c1, c2, c3, c4, c5, c6, c7, c8, c9].drop 6).take (Tryz.prog.cellsOf 3)) = some x6 := hf 6 _ rfl
      rw [c3_] at g6
      have f6 : DataW.trod enc Tryz.prog W base spare held k 3 [c6] = some x6 := g6
      have g7 : DataW.trod enc Tryz.prog W base spare held k 25 (([c0, c1, c2, c3, c4, c5, c6, c7, c8, c9].drop 7).take (Tryz.prog.cellsOf 25)) = some x7 := hf 7 _ rfl
      rw [cLI] at g7
      have f7 : DataW.trod enc Tryz.prog W base spare held k 25 [c7] = some x7 := g7
      have g8 : DataW.trod enc Tryz.prog W base spare held k 26 (([c0, c1, c2, c3, c4, c5, c6, c7, c8, c9].drop 8).take (Tryz.prog.cellsOf 26)) = some x8 := hf 8 _ rfl
      rw [cLM] at g8
      have f8 : DataW.trod enc Tryz.prog W base spare held k 26 [c8] = some x8 := g8
      have g9 : DataW.trod enc Tryz.prog W base spare held k 9 (([c0, c1, c2, c3, c4, c5, c6, c7, c8, c9].drop 9).take (Tryz.prog.cellsOf 9)) = some x9 := hf 9 _ rfl
      rw [c9_] at g9
      have f9 : DataW.trod enc Tryz.prog W base spare held k 9 [c9] = some x9 := g9
      have ed : x.1 = .agg [x0.1, x1.1, x2.1, x3.1, x4.1, x5.1, x6.1, x7.1, x8.1, x9.1] := congrArg Prod.fst hx
      obtain ⟨n0, rfl, _⟩ := open_num f0
      obtain ⟨l1, rfl⟩ := open_text f1
      obtain ⟨l2, rfl⟩ := open_text f2
      obtain ⟨l3, rfl⟩ := open_text f3
      obtain ⟨n4, rfl, _⟩ := open_num f4
      obtain ⟨n5, rfl, _⟩ := open_num f5
      obtain ⟨n6, rfl, _⟩ := open_num f6
      obtain ⟨la, ha, b7⟩ := open_nums f7 (fun n hn => hw n (by rw [ed]; unfold DataW.weights; rw [Tryz.underlying28]; exact DataW.weights_mem_each (j := 7) rfl rfl n hn))
      obtain ⟨lq, hq, hqt, b8⟩ := open_msgs f8 (fun n hn => hw n (by rw [ed]; unfold DataW.weights; rw [Tryz.underlying28]; exact DataW.weights_mem_each (j := 8) rfl rfl n hn))
      obtain ⟨l9, rfl⟩ := open_text f9
      exact ⟨⟨n0, l1, l2, l3, n4, n5, n6, la, lq, l9⟩, ⟨c7, c8, rfl, ha, hq⟩, ⟨b7, b8⟩⟩
theorem open_subs {fuel : Nat} {v : Value} {x : DataW H × List MemPlace} (h : DataW.trod enc Tryz.prog W base spare held fuel 22 [v] = some x) (hw : ∀ n ∈ x.1.weights Tryz.prog 22, n ≤ reachBytes) : ∃ l : List Sub, RS W v l ∧ (∀ m ∈ l, Sized m) ∧ l.length ≤ 977343669105 := by
  have hr := reach_le
  rcases Go.Deep.open_slice Tryz.underlying22 h with ⟨hcs, hx⟩ | ⟨a, len, cap, m, n, D, Pl, hcs, _, hl, hm, hmm, hx, hel⟩
  · simp only [List.cons.injEq, and_true] at hcs
    subst hcs
    exact ⟨[], RL.nil_ _ _ _ (Nat.zero_le _), fun _ h => (by cases h), by simp⟩
  · simp only [List.cons.injEq, and_true] at hcs
    subst hcs
    have hlm : len ≤ m := by rw [hmm]; split <;> omega
    subst hx
    obtain ⟨xs, hxl, hq⟩ := pick (Q := fun i y => (∃ cs, CS W y cs ∧ cs.length = 10 ∧ ∀ k, k < 10 → W.cell? (a.add (i * 10 + k)) = cs[k]?) ∧ Sized y) (len := len) (fun i hi => by
      obtain ⟨cs, h1, h2⟩ := hel i (by omega)
      rw [cTS] at h1
      obtain ⟨_, hlen, hat⟩ := World.cells?_some h1
      obtain ⟨y, hy, hyt⟩ := open_sub hlen h2 (fun n hn => hw n (by unfold DataW.weights; rw [Tryz.underlying22]; refine List.mem_cons_of_mem _ ?_; exact List.mem_append_left _ (weightsAll_mem _ _ _ _ (List.mem_map.2 ⟨i, List.mem_range.2 hi, rfl⟩) n hn)))
      refine ⟨y, ⟨cs, hy, hlen, fun k hk => ?_⟩, hyt⟩
      rw [← hat k hk, Addr.add_add]) len (Nat.le_refl _)
    refine ⟨xs, rl_of hxl hl hm (by decide) (fun j hj => (hq j hj).1), fun z hz => ?_, ?_⟩
    · obtain ⟨j, hj, rfl⟩ := List.getElem_of_mem hz
      exact (hq j hj).2
    · have h1 := hw ((((List.range len).map D).length + ((List.range (m - len)).map fun j => D (len + j)).length) * Tryz.prog.bytesOf 28) (by simp [DataW.weights, Tryz.underlying22])
      rw [bTS] at h1
      simp only [List.length_map, List.length_range] at h1
      omega
theorem open_state {fuel : Nat} {cs : List Value} {x : DataW H × List MemPlace} (hlen : cs.length = 4) (h : DataW.trod enc Tryz.prog W base spare held fuel 24 cs = some x) (hw : ∀ n ∈ x.1.weights Tryz.prog 24, n ≤ reachBytes) : ∃ (s : St) (sv : Value), cs = stC s.clock s.next s.last sv ∧ RS W sv s.subs ∧ (∀ y ∈ s.subs, Sized y) ∧ s.subs.length ≤ 977343669105 := by
  obtain ⟨ys, k, _, hx, _, hxl, hf⟩ := DataW.trod_struct Tryz.underlying24 h
  match cs, hlen with
  | [c0, c1, c2, c3], _ =>
    match ys, hxl with
    | [x0, x1, x2, x3], _ =>
      have g0 : DataW.trod enc Tryz.prog W base spare held k 3 (([c0, c1, c2, c3].drop 0).take (Tryz.prog.cellsOf 3)) = some x0 := hf 0 _ rfl
      rw [c3_] at g0
      have f0 : DataW.trod enc Tryz.prog W base spare held k 3 [c0] = some x0 := g0
      have g1 : DataW.trod enc Tryz.prog W base spare held k 3 (([c0, c1, c2, c3].drop 1).take (Tryz.prog.cellsOf 3)) = some x1 := hf 1 _ rfl
      rw [c3_] at g1
      have f1 : DataW.trod enc Tryz.prog W base spare held k 3 [c1] = some x1 := g1
      have g2 : DataW.trod enc Tryz.prog W base spare held k 3 (([c0, c1, c2, c3].drop 2).take (Tryz.prog.cellsOf 3)) = some x2 := hf 2 _ rfl
      rw [c3_] at g2
      have f2 : DataW.trod enc Tryz.prog W base spare held k 3 [c2] = some x2 := g2
      have g3 : DataW.trod enc Tryz.prog W base spare held k 22 (([c0, c1, c2, c3].drop 3).take (Tryz.prog.cellsOf 22)) = some x3 := hf 3 _ rfl
      rw [cLS] at g3
      have f3 : DataW.trod enc Tryz.prog W base spare held k 22 [c3] = some x3 := g3
      have ed : x.1 = .agg [x0.1, x1.1, x2.1, x3.1] := congrArg Prod.fst hx
      obtain ⟨n0, rfl, _⟩ := open_num f0
      obtain ⟨n1, rfl, _⟩ := open_num f1
      obtain ⟨n2, rfl, _⟩ := open_num f2
      obtain ⟨ls, hs, hst, b3⟩ := open_subs f3 (fun n hn => hw n (by rw [ed]; unfold DataW.weights; rw [Tryz.underlying24]; exact DataW.weights_mem_each (j := 3) rfl rfl n hn))
      exact ⟨⟨n0, n1, n2, ls⟩, c3, rfl, hs, hst, b3⟩
end
end Go.Proofs.YtjppomhfillflaaGreatDoor.First
