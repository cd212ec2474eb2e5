/-
  The contracts of the program's closure in Settle, of slices.IndexFunc and slices.DeleteFunc of numbers with it (layer state).; The contract of the program's Settle (layer state).; The contract of the program's Settle (layer state).
-/
import Derived.Lib.SliceRun
import Derived.Lib.LazyBuf
import Derived.Laws.IdiomCopy
import Derived.Deep.Upon
import Derived.Handy
import Derived.Test.YtodckdkbheapfaaGreatKOCD
set_option linter.unusedVariables false
set_option linter.unusedVariables false
namespace Go.Ts
def IdxI (F : Int) (xs : List Int) (r : Int) : Prop := (∃ k : Nat, ∃ h : k < xs.length, r = k ∧ xs[k] ≤ F ∧ ∀ j (hj : j < xs.length), j < k → F < xs[j]) ∨ (r = -1 ∧ ∀ j (hj : j < xs.length), F < xs[j])
theorem up_all {F : Int} {l : List Int} (h : ∀ j (hj : j < l.length), F < l[j]) : upL F l = l := by
  unfold upL
  rw [List.filter_eq_self]
  intro n hn
  obtain ⟨j, hj, rfl⟩ := List.getElem_of_mem hn
  exact decide_eq_true (h j hj)
theorem up_first {F : Int} {l : List Int} {k : Nat} (hk : k < l.length) (h1 : l[k] ≤ F) (h2 : ∀ j (hj : j < l.length), j < k → F < l[j]) : upL F (l.take (k + 1)) = l.take k := by
  rw [upL_take hk, if_neg (by omega), List.append_nil]
  exact up_all (fun j hj => by
    rw [List.getElem_take]
    have : j < l.length := by rw [List.length_take] at hj; omega
    exact h2 j this (by rw [List.length_take] at hj; omega))
structure DelI (F : Int) (xs : List Int) (i j : Nat) (cs : List Value) : Prop where
  len : cs.length = xs.length
  ij : i < j
  jn : j ≤ xs.length
  up : i = (upL F (xs.take j)).length
  lo : ∀ k (h : k < (upL F (xs.take j)).length), cs[k]? = some (Value.int .i64 (upL F (xs.take j))[k])
  hi : ∀ k (h : k < xs.length), j ≤ k → cs[k]? = some (Value.int .i64 xs[k])
theorem DelI.start {F : Int} {xs : List Int} {k : Nat} (hk : k < xs.length) (h1 : xs[k] ≤ F) (h2 : ∀ j (hj : j < xs.length), j < k → F < xs[j]) : DelI F xs k (k + 1) (xs.map fun n => Value.int .i64 n) := by
  have hu := up_first hk h1 h2
  refine ⟨by simp, by omega, by omega, ?_, ?_, ?_⟩
  · rw [hu, List.length_take]; omega
  · intro m hm
    simp only [hu] at hm ⊢
    rw [List.length_take] at hm
    rw [List.getElem?_map, List.getElem?_eq_getElem (by omega), List.getElem_take]
    rfl
  · intro m hm _
    rw [List.getElem?_map, List.getElem?_eq_getElem hm]
    rfl
theorem DelI.skip {F : Int} {xs : List Int} {i j : Nat} {cs : List Value} (h : DelI F xs i j cs) (hj : j < xs.length) (hx : xs[j] ≤ F) : DelI F xs i (j + 1) cs := by
  have hu : upL F (xs.take (j + 1)) = upL F (xs.take j) := by rw [upL_take hj, if_neg (by omega), List.append_nil]
  have := h.ij
  exact ⟨h.len, by omega, by omega, by rw [hu]; exact h.up, by rw [hu]; exact h.lo, fun k hk hjk => h.hi k hk (by omega)⟩
theorem DelI.keep {F : Int} {xs : List Int} {i j : Nat} {cs : List Value} (h : DelI F xs i j cs) (hj : j < xs.length) (hx : F < xs[j]) : DelI F xs (i + 1) (j + 1) (cs.set i (Value.int .i64 xs[j])) := by
  have hu : upL F (xs.take (j + 1)) = upL F (xs.take j) ++ [xs[j]] := by rw [upL_take hj, if_pos hx]
  have h1 := h.ij
  have h2 := h.up
  have h3 := h.len
  refine ⟨by simp [h3], by omega, by omega, ?_, ?_, ?_⟩
  · rw [hu, List.length_append, ← h2]; rfl
  · intro k hk
    simp only [hu] at hk ⊢
    rw [List.length_append, List.length_singleton, ← h2] at hk
    rw [List.getElem?_set]
    by_cases e : i = k
    · subst e
      rw [if_pos rfl, if_pos (by omega), List.getElem_append_right (by omega)]
      simp
    · rw [if_neg e, List.getElem_append_left (by omega)]
      exact h.lo k (by omega)
  · intro k hk hjk
    rw [List.getElem?_set, if_neg (by omega)]
    exact h.hi k hk (by omega)
end Go.Ts
namespace Go.Proofs.YtodckdkbheapfaaGreat
open Go.RowKit Go.Rst Go.Tp Go.Ts
abbrev setV (b : Nat) : Value := .func (.func 115) #[] #[.pointer (some ⟨b, 0, none⟩)]
set_option maxRecDepth 100000 in
theorem set1_any (n F : Int) (b : Nat) (w : World) (hb : w.cell? ⟨b, 0, none⟩ = some (.int .i64 F)) :
    Calls Tryz.prog 115 #[.int .i64 n, .pointer (some ⟨b, 0, none⟩)] w fun e w' => e = .returned (.bool (decide (n ≤ F))) ∧ w' = w := by
  go_enter Tryz.func115, Tryz.ntmps115
  go_wp2
  go_ret
  exact ⟨rfl, rfl⟩
set_option maxRecDepth 100000 in
set_option maxHeartbeats 1000000 in
theorem idx_ints (v : Value) (xs : List Int) (b : Nat) (F : Int) (w : World) (hv : Go.Ts.RI w v xs) (hb : w.cell? ⟨b, 0, none⟩ = some (.int .i64 F)) :
    Calls Tryz.prog 148 #[v, setV b] w fun e w' => (∃ r : Int, e = .returned (.int .i64 r) ∧ IdxI F xs r) ∧ w' = w := by
  have HV := Lib.hid hv
  obtain ⟨A, c, rfl, hc1, hc2⟩ := hv.shape
  unfold maxLen at hc2
  have HS := Lib.hid (fun n => set1_any n F b w hb)
  clear hv hb
  go_enter Tryz.func148, Tryz.ntmps148
  go_wp2
  go_loopw [8] (fun i wr => ∃ k : Nat, k ≤ xs.length ∧ i = .int .i64 k ∧ (∀ j (hj : j < xs.length), j < k → F < xs[j]) ∧ wr = w) (fun i _ => xs.length - (intOf i).toNat)
  case atStart => exact ⟨0, Nat.zero_le _, rfl, fun j _ h => by omega, rfl⟩
  case round =>
    obtain ⟨k, hk, rfl, hall, hw⟩ := hrel
    subst hw
    have HALL := Lib.hid hall
    clear hall
    by_cases hlt : k < xs.length
    · obtain ⟨g, off, rfl, hcell⟩ := ri_at HV.out hlt
      have q1 : (k : Int) < (xs.length : Int) := by omega
      have HK := Lib.hid (HS.out xs[k])
      have HNX := Lib.hid (fun h : F < xs[k] => (fun j hj hjk => by
        by_cases e : j = k
        · subst e; exact h
        · exact HALL.out j hj (by omega) : ∀ j (hj : j < xs.length), j < k + 1 → F < xs[j]))
      have HST := Lib.hid (fun h : xs[k] ≤ F => (.inl ⟨k, hlt, rfl, h, HALL.out⟩ : IdxI F xs k))
      obtain ⟨n, hn⟩ : ∃ n, n = xs[k] := ⟨_, rfl⟩
      rw [← hn] at hcell HK HNX HST
      clear hn
      by_cases hq : n ≤ F
      · have hd : decide (n ≤ F) = true := decide_eq_true hq
        rw [hd] at HK
        clear hd
        go_wp2_with (go_at_call 115; refine HK.out.mono ?_; rintro e w3 ⟨rfl, rfl⟩)
        go_ret
        exact ⟨⟨_, rfl, HST.out hq⟩, rfl⟩
      · have hd : decide (n ≤ F) = false := decide_eq_false hq
        rw [hd] at HK
        clear hd
        go_wp2_with (go_at_call 115; refine HK.out.mono ?_; rintro e w3 ⟨rfl, rfl⟩)
        go_roundw
        case rel => exact ⟨k + 1, by omega, by go_num, HNX.out (by omega), by first | rfl | trivial⟩
        case measure => simp [intOf]; omega
    · have q1 : ¬ (k : Int) < (xs.length : Int) := by omega
      go_wp2
      go_ret
      exact ⟨⟨_, rfl, .inr ⟨rfl, fun j hj => HALL.out j hj (by omega)⟩⟩, rfl⟩
theorem flat_ints (xs : List Int) : (xs.map fun n => [Value.int .i64 n]).flatten = xs.map fun n => Value.int .i64 n := by
  induction xs with
  | nil => rfl
  | cons a l ih => simp [ih]
theorem clear_nums (w : World) (ty : TypeId) (b o n c : Nat) (hn : 0 < n) (hc : ∀ j, j < n → (w.cell? ⟨b, o + j, none⟩).isSome = true) (hf : ∀ j, j < n → w.frozen? ⟨b, o + j, none⟩ = false) :
    (Builtin.clear_ #[27] ty #[.slice (some ⟨b, o, none⟩) n c]).run Tryz.prog w = .ok (.tuple #[]) (w.setCells b o (List.replicate n (.int .i64 0))) :=
  Lib.run_clear_slice w 27 3 ty (.int .i64 0) Tryz.underlying27 (by intro w; kernel_rfl) rfl rfl b o n c hn hc hf
def GivesDel (w : World) (v : Value) (ys : List Int) (e : Ending) (w' : World) : Prop := ∃ u, e = .returned u ∧ Go.Ts.RI w' u ys ∧ w.grownBy w' v.ownBlock ∧ ∀ k, u.ownBlock = some k → v.ownBlock = some k
set_option maxRecDepth 100000 in
set_option maxHeartbeats 4000000 in
theorem del_any (v : Value) (xs : List Int) (B b : Nat) (F : Int) (w : World) (hv : w.ownsRow B 3 1 v xs.length (xs.map fun n => Value.int .i64 n)) (hne : ∀ k, v.ownBlock = some k → k ≠ b) (hb : w.cell? ⟨b, 0, none⟩ = some (.int .i64 F)) (hl : xs.length ≤ 4611686018427387904) :
    Calls Tryz.prog 114 #[v, setV b] w (GivesDel w v (upL F xs)) := by
  have hri : Go.Ts.RI w v xs := (rlt_ints (by rw [flat_ints]; exact hv)).rl
  have HIX := Lib.hid (idx_ints v xs b F w hri hb)
  have hbw : b < w.heap.size := block_lt_of_cell hb
  have HB := Lib.hid hb
  have HRI := Lib.hid hri
  obtain ⟨A, c, rfl, hc1⟩ := own_shape hv
  have HC1 := Lib.hid hc1
  have HNE := Lib.hid hne
  have HV := Lib.hid hv
  clear hri hb hne hv hc1
  go_enter Tryz.func114, Tryz.ntmps114
  go_wp2_with fail
  refine HIX.out.mono ?_
  rintro e w2 ⟨⟨r, rfl, hr⟩, hw2⟩
  subst w2
  rcases hr with ⟨k, hk, hrk, h1, h2⟩ | ⟨hrk, hall⟩
  case inr =>
    subst hrk
    have HU := Lib.hid (up_all hall)
    clear hall
    go_wp2
    go_ret
    exact ⟨_, rfl, by rw [HU.out]; exact HRI.out, ⟨rfl, rfl, rfl, Nat.le_refl _, fun _ _ _ => rfl⟩, fun k h => h⟩
  subst hrk
  obtain ⟨g, rfl⟩ : ∃ g, A = some ⟨g, 0, none⟩ := by
    rcases HV.out.2 with ⟨h, h0⟩ | ⟨g, cap, cur, h, _⟩
    · omega
    · injection h with h3 _ h4
      exact ⟨g, h3⟩
  have hcap : xs.length ≤ c := HC1.out
  have HD0 := Lib.hid (DelI.start hk h1 h2)
  have hgb : g ≠ b := HNE.out g rfl
  have hkl : (k : Int) < 9223372036854775807 := by omega
  clear h1 h2
  have hxl : (xs.length : Int) ≤ 4611686018427387904 := by omega
  have hk1 : (k : Int) ≠ -1 := by omega
  have q0 : ((k : Int) == -1) = false := beq_eq_false_iff_ne.2 hk1
  go_wp2_with fail
  go_loopw [5, 6] (fun iv jv wr => ∃ (i j : Nat) (cs : List Value), iv = .int .i64 i ∧ jv = .int .i64 j ∧ DelI F xs i j cs ∧ wr.ownsRow B 3 1 (.slice (some ⟨g, 0, none⟩) xs.length c) xs.length cs ∧ w.grownBy wr (some g)) (fun _ jv _ => xs.length - (intOf jv).toNat)
  case atStart => exact ⟨k, k + 1, _, rfl, by go_num, HD0.out, HV.out, ⟨rfl, rfl, rfl, Nat.le_refl _, fun _ _ _ => rfl⟩⟩
  case round =>
    obtain ⟨i, j, cs, rfl, rfl, hd, how, hgr⟩ := hrel
    have hij := hd.ij
    have hjn := hd.jn
    have HD := Lib.hid hd
    have HO := Lib.hid how
    have HG := Lib.hid hgr
    have hcb : wr.cell? ⟨b, 0, none⟩ = some (.int .i64 F) := hgr.cell HB.out (by simp; omega)
    clear hd how hgr
    by_cases hlt : j < xs.length
    · have q1 : (j : Int) < (xs.length : Int) := by omega
      have cj := (HO.out.cellAt j (by omega)).trans (HD.out.hi j hlt (Nat.le_refl _))
      have HK := Lib.hid (set1_any xs[j] F b wr hcb)
      have HSK := Lib.hid (fun h : xs[j] ≤ F => HD.out.skip hlt h)
      have HKP := Lib.hid (fun h : F < xs[j] => HD.out.keep hlt h)
      obtain ⟨n, hn⟩ : ∃ n, n = xs[j] := ⟨_, rfl⟩
      rw [← hn] at cj HK HSK HKP
      clear hn
      have ci := HO.out.cellAt i (by omega)
      obtain ⟨ov, hov⟩ : ∃ ov, cs[i]? = some ov := ⟨_, List.getElem?_eq_getElem (by rw [HD.out.len]; omega)⟩
      rw [hov] at ci
      have fi := HO.out.frozenAt i
      have HST := Lib.hid (HO.out.stored i (.int .i64 n))
      clear hov
      by_cases hq : n ≤ F
      · have hdd : decide (n ≤ F) = true := decide_eq_true hq
        rw [hdd] at HK
        clear hdd ci fi hcb
        go_wp2_with (go_at_call 115; refine HK.out.mono ?_; rintro e w3 ⟨rfl, rfl⟩)
        go_roundw
        case rel => exact ⟨i, j + 1, cs, rfl, by go_num, HSK.out hq, HO.out, HG.out⟩
        case measure => simp [intOf]; omega
      · have hdd : decide (n ≤ F) = false := decide_eq_false hq
        rw [hdd] at HK
        clear hdd hcb
        go_wp2_with (go_at_call 115; refine HK.out.mono ?_; rintro e w3 ⟨rfl, rfl⟩)
        go_roundw
        case rel =>
          have hg2 := HST.out.2
          exact ⟨i + 1, j + 1, _, by go_num, by go_num, HKP.out (by omega), HST.out.1, ⟨hg2.os.trans HG.out.os, hg2.tape.trans HG.out.tape, hg2.output.trans HG.out.output, Nat.le_trans HG.out.size hg2.size, fun m hm hne => (hg2.block m (Nat.lt_of_lt_of_le hm HG.out.size) hne).trans (HG.out.block m hm hne)⟩⟩
        case measure => simp [intOf]; omega
    · have q1 : ¬ (j : Int) < (xs.length : Int) := by omega
      obtain rfl : j = xs.length := by omega
      have hin : i < xs.length := hij
      have hcl := fun ty => clear_nums wr ty g i (xs.length - i) (c - i) (by omega) (fun m hm => by rw [HO.out.cellAt (i + m) (by omega), List.getElem?_eq_getElem (by rw [HD.out.len]; omega)]; rfl) (fun m hm => HO.out.frozenAt (i + m))
      have e1 : ((i : Int)).toNat = i := by omega
      have e2 : ((xs.length : Int) - (i : Int)).toNat = xs.length - i := by omega
      clear hcb
      go_wp2_with (simp only [hcl])
      go_ret
      refine ⟨_, rfl, ?_, ?_, fun k h => h⟩
      · have hu := HD.out.up
        have hlo := HD.out.lo
        have hlt := HO.out.lt g rfl
        have hcm : c ≤ maxLen := by
          obtain ⟨_, _, h1, _, h2, _⟩ := HRI.out
          injection h1 with _ _ h1
          omega
        rw [List.take_length] at hu
        simp only [List.take_length] at hlo
        subst hu
        have hsz := (below_setCells (Nat.le_refl g) (List.replicate (xs.length - (upL F xs).length) (Value.int .i64 0)) (upL F xs).length wr (Below.refl g wr)).size
        refine ⟨_, _, rfl, by omega, hcm, .inr ⟨g, 0, rfl, by omega, fun m hm => ⟨_, rfl, fun z hz => ?_⟩⟩⟩
        have hz0 : z = 0 := by simp at hz; omega
        subst hz0
        rw [World.cell?_setCells_out g _ _ _ _ (fun _ _ => Or.inl (by show 0 + m * 1 + 0 < _; omega)), show 0 + m * 1 + 0 = m by omega, HO.out.cellAt m (by omega), hlo m hm]
        rfl
      · have hgo := HG.out
        have hb2 := below_setCells (Nat.le_refl g) (List.replicate (xs.length - i) (Value.int .i64 0)) i wr (Below.refl g wr)
        exact ⟨hb2.os.trans hgo.os, hb2.tape.trans hgo.tape, hb2.output.trans hgo.output, Nat.le_trans hgo.size hb2.size, fun m hm hne => (World.heap_setCells_other wr g i _ (Nat.lt_of_lt_of_le hm hgo.size) (fun e => hne (by rw [e]; rfl))).trans (hgo.block m hm hne)⟩
end Go.Proofs.YtodckdkbheapfaaGreat
set_option linter.unusedVariables false
namespace Go.Proofs.YtodckdkbheapfaaGreat
open Go.RowKit Go.Rst Go.Tp Go.Ts
theorem own_rm {w : World} {base : Nat} {e : TypeId} {v : Value} {xs : List Msg} (h : w.ownsRow base e 8 v xs.length (xs.map msgC).flatten) : RM w v xs := (rlt_msgs h).rl
theorem rl_block {α : Type} {sz : Nat} {C : World → α → List Value → Prop} (hC : Fixed C) {w w' : World} {v : Value} {xs : List α} (h : RL sz C w v xs) (hs : w.heap.size ≤ w'.heap.size) (hb : ∀ k, v.ownBlock = some k → w'.heap[k]? = w.heap[k]?) : RL sz C w' v xs := by
  obtain ⟨A, c, rfl, h2, h3, h4⟩ := h
  refine ⟨A, c, rfl, h2, h3, ?_⟩
  rcases h4 with h4 | ⟨b, off, rfl, h6, h7⟩
  · exact .inl h4
  · exact .inr ⟨b, off, rfl, Nat.lt_of_lt_of_le h6 hs, fun j hj => let ⟨cs, h8, h9⟩ := h7 j hj; ⟨cs, hC _ _ _ _ h8, cells_block h9 (hb b rfl)⟩⟩
theorem below_grown {B : Nat} {w w3 w6 : World} {row : Option Nat} (h : Below B w w3) (hB : B ≤ w3.heap.size) (hg : w3.grownBy w6 row) (hr : ∀ k, row = some k → B ≤ k) : Below B w w6 :=
  ⟨hg.os.trans h.os, hg.tape.trans h.tape, hg.output.trans h.output, Nat.le_trans h.size hg.size, fun k hk => (hg.block k (by omega) (fun e => by have := hr k e.symm; omega)).trans (h.block k hk)⟩
set_option maxRecDepth 100000 in
set_option maxHeartbeats 8000000 in
theorem settleP_any (x : Sub) (av qv : Value) (next : Int) (w : World) (ha : Go.Ts.RI w av x.acks) (hq : RM w qv x.queue) (hz : Sized x) :
    Calls Tryz.prog 78 #[.agg (subC x av qv).toArray, .int .i64 next] w (GivesSub w (settleS x next)) := by
  have hz1 := hz.1
  have HZ := Lib.hid hz
  obtain ⟨Aa, ka, rfl, _, ham⟩ := ha.shape
  obtain ⟨Aq, kq, rfl, _, hqm⟩ := hq.shape
  unfold maxLen at ham hqm
  obtain ⟨xx, hxx⟩ : ∃ xx, xx = x := ⟨_, rfl⟩
  rw [show settleS x next = settleS xx next by rw [hxx]]
  have hb0 := below_two w (subC x (.slice Aa x.acks.length ka) (.slice Aq x.queue.length kq)).toArray #[.int .i64 0, .string ⟨#[]⟩, .string ⟨#[]⟩, .string ⟨#[]⟩, .int .i64 0, .int .i64 0, .int .i64 0, .slice none 0 0, .slice none 0 0, .string ⟨#[]⟩] 30 30
  have HOW := Lib.hid (own2_any x (.slice Aa x.acks.length ka) (.slice Aq x.queue.length kq) _ (ha.below stays_ci hb0) (hq.below stays_cm hb0) hz)
  have HXX := Lib.hid hxx
  have hx0 : Wh _ w.heap.size (subC x (.slice Aa x.acks.length ka) (.slice Aq x.queue.length kq)) 30 := (Wh.new w (subC x (.slice Aa x.acks.length ka) (.slice Aq x.queue.length kq)) 30).alloc (.cells #[.int .i64 0, .string ⟨#[]⟩, .string ⟨#[]⟩, .string ⟨#[]⟩, .int .i64 0, .int .i64 0, .int .i64 0, .slice none 0 0, .slice none 0 0, .string ⟨#[]⟩] 30)
  have ho0 : Wh ((w.alloc (.cells (subC x (.slice Aa x.acks.length ka) (.slice Aq x.queue.length kq)).toArray 30)).alloc (.cells #[.int .i64 0, .string ⟨#[]⟩, .string ⟨#[]⟩, .string ⟨#[]⟩, .int .i64 0, .int .i64 0, .int .i64 0, .slice none 0 0, .slice none 0 0, .string ⟨#[]⟩] 30)) (w.heap.size + 1) [.int .i64 0, .string ⟨#[]⟩, .string ⟨#[]⟩, .string ⟨#[]⟩, .int .i64 0, .int .i64 0, .int .i64 0, .slice none 0 0, .slice none 0 0, .string ⟨#[]⟩] 30 := by
    have := Wh.new (w.alloc (.cells (subC x (.slice Aa x.acks.length ka) (.slice Aq x.queue.length kq)).toArray 30)) [.int .i64 0, .string ⟨#[]⟩, .string ⟨#[]⟩, .string ⟨#[]⟩, .int .i64 0, .int .i64 0, .int .i64 0, .slice none 0 0, .slice none 0 0, .string ⟨#[]⟩] 30
    rw [World.size_alloc] at this
    exact this
  obtain ⟨id, name, topic, want, lease, most, floor, acks, queue, note⟩ := x
  simp only [subC] at hx0 ho0 hb0 HOW ⊢
  have HX0 := Lib.hid hx0
  have HR0 := Lib.hid hx0.range
  have HO0 := Lib.hid ho0
  have HB0 := Lib.hid hb0
  have HA := Lib.hid ha
  have HQ := Lib.hid hq
  clear ha hq hx0 ho0 hb0 hz hxx
  go_enter Tryz.func78, Tryz.ntmps78
  go_wp2_with (refine wpList_load_midG (by rfl) 30 (.tmp 2) rfl w.heap.size 0 rfl _ _ HR0.out Tryz.underlying30 rfl size35 ?_)
  generalize hW0 : (w.alloc (.cells #[.int .i64 id, sv name, sv topic, sv want, .int .i64 lease, .int .i64 most, .int .i64 floor, .slice Aa acks.length ka, .slice Aq queue.length kq, sv note] 30)).alloc (.cells #[.int .i64 0, .string ⟨#[]⟩, .string ⟨#[]⟩, .string ⟨#[]⟩, .int .i64 0, .int .i64 0, .int .i64 0, .slice none 0 0, .slice none 0 0, .string ⟨#[]⟩] 30) = W0 at HX0 HR0 HO0 HB0 HOW ⊢
  have hs0 : W0.heap.size = w.heap.size + 2 := by rw [← hW0]; simp
  have HS0 := Lib.hid hs0
  clear hW0 hs0
  refine HOW.out.mono ?_
  rintro e w1 ⟨av1, qv1, rfl, hoa, hoq, hb1⟩
  have hra := (rlt_ints hoa).rl
  have hrq := own_rm hoq
  obtain ⟨A1, c1, rfl, hc1, hcm1⟩ := hra.shape
  obtain ⟨A2, c2, rfl, hc2, hcm2⟩ := hrq.shape
  unfold maxLen at hcm1 hcm2
  simp only [subC]
  have hbt := HB0.out.trans (hb1.mono HB0.out.size)
  have hx1 := HX0.out.below hb1
  have ho1 := HO0.out.below hb1
  obtain ⟨X1, hX1⟩ : ∃ X1 : List Value, X1 = [.int .i64 id, sv name, sv topic, sv want, .int .i64 lease, .int .i64 most, .int .i64 floor, .slice A1 acks.length c1, .slice A2 queue.length c2, sv note] := ⟨_, rfl⟩
  have hall := sub_all ⟨id, name, topic, want, lease, most, floor, acks, queue, note⟩ (av := .slice A1 acks.length c1) (qv := .slice A2 queue.length c2) rfl rfl
  have HALL := Lib.hid hall
  have hgr := grown_row w1 w.heap.size X1.toArray
  have HWX := Lib.hid (hx1.set X1)
  have HWO := Lib.hid (ho1.setOther (k := w.heap.size) (by omega) X1.toArray)
  have HOA := Lib.hid (own_apart hoa hgr (fun k hk => by have := (hoa.lt k hk).1; have := HS0.out; omega))
  have HOQ := Lib.hid (own_apart hoq hgr (fun k hk => by have := (hoq.lt k hk).1; have := HS0.out; omega))
  have HBX := Lib.hid (below_setRow hbt (Nat.le_refl w.heap.size) X1.toArray)
  have HX1 := Lib.hid hx1
  clear hoa hoq hra hrq hb1 hbt hx1 ho1 hgr hall HX0 HR0 HO0 HOW
  rw [hX1] at HWX HWO HOA HOQ HBX
  clear hX1 X1
  have hq0 := HOQ.out
  obtain ⟨q, hqv⟩ : ∃ q, q = w64 ((match queue with | [] => next | m :: _ => m.seq) - 1) := ⟨_, rfl⟩
  obtain ⟨F, hF⟩ : ∃ F, F = max floor q := ⟨_, rfl⟩
  have HEQ := Lib.hid (show settleS xx next = ⟨id, name, topic, want, lease, most, F, upL F acks, queue, note⟩ by rw [HXX.out, hF, hqv]; rfl)
  have HMX := Lib.hid (show (if q > floor then q else floor) = F by rw [hF]; split <;> omega)
  have HQV := Lib.hid hqv
  clear hq0 hqv hF
  by_cases hlt0 : 0 < queue.length
  · obtain ⟨b, off, hAq, hbq, hrg⟩ := rm_at (own_rm HOQ.out) hlt0
    have HAQ := Lib.hid hAq
    subst hAq
    have hc0 := hrg 0 (.int .i64 queue[0].seq) rfl
    simp only [Nat.add_zero, Nat.zero_mul] at hc0
    have HQW := Lib.hid (show RowKit.wrap64 (queue[0].seq - 1) = q by rw [HQV.out]; cases queue with | nil => simp at hlt0 | cons m l => rfl)
    obtain ⟨s, hs⟩ : ∃ s, s = queue[0].seq := ⟨_, rfl⟩
    rw [← hs] at hc0 HQW
    clear hs hrg
    have q1 : (0 : Int) < (queue.length : Int) := by omega
    go_wp2_with (first
      | (refine wpList_max3 rfl (.tmp 18) (.tmp 20) _ rfl rfl rfl (n := F) (by rw [HQW.out]; exact HMX.out) ?_)
      | (refine wpList_store_row rfl 30 (.tmp 2) (.tmp 7) rfl w.heap.size #[.int .i64 id, sv name, sv topic, sv want, .int .i64 lease, .int .i64 most, .int .i64 floor, .slice A1 acks.length c1, .slice (some ⟨b, off, none⟩) queue.length c2, sv note] rfl rfl 30 #[.int .i64 id, sv name, sv topic, sv want, .int .i64 lease, .int .i64 most, .int .i64 floor, .slice Aa acks.length ka, .slice Aq queue.length kq, sv note] HX1.out size35 rfl HALL.out ?_
         generalize hW2 : w1.setRow w.heap.size #[.int .i64 id, sv name, sv topic, sv want, .int .i64 lease, .int .i64 most, .int .i64 floor, .slice A1 acks.length c1, .slice (some ⟨b, off, none⟩) queue.length c2, sv note] = W2 at *
         have c6 := HWX.out.bx.cell (i := 6) (by simp)
         have c7 := HWX.out.bx.cell (i := 7) (by simp)
         have c8 := HWX.out.bx.cell (i := 8) (by simp)
         have f6 := HWX.out.frozen 6
         have f7 := HWX.out.frozen 7
         have hl2 := HWX.out.lt
         simp only [List.getElem_cons_succ, List.getElem_cons_zero] at c6 c7 c8))
    have hs0 := HS0.out
    have hoa3 := (own_apart HOA.out (grown_cell W2 w.heap.size 6 (.int .i64 F)) (fun k hk => by have := (HOA.out.lt k hk).1; omega)).alloc (.cells #[.int .i64 F] 3)
    have hoq3 := (own_apart HOQ.out (grown_cell W2 w.heap.size 6 (.int .i64 F)) (fun k hk => by have := (HOQ.out.lt k hk).1; omega)).alloc (.cells #[.int .i64 F] 3)
    have hwx3 := (HWX.out.set1 6 (.int .i64 F)).alloc (.cells #[.int .i64 F] 3)
    have hwo3 := (HWO.out.set1Other (k := w.heap.size) (by omega) 6 (.int .i64 F)).alloc (.cells #[.int .i64 F] 3)
    have hb3 := (HBX.out.setCell (p := ⟨w.heap.size, 6, none⟩) (Nat.le_refl _) (.int .i64 F)).alloc (by simp; omega) (.cells #[.int .i64 F] 3)
    have hcf : ((W2.setCell ⟨w.heap.size, 6, none⟩ (.int .i64 F)).alloc (.cells #[.int .i64 F] 3)).cell? ⟨W2.heap.size, 0, none⟩ = some (.int .i64 F) := by
      have := (Wh.new (W2.setCell ⟨w.heap.size, 6, none⟩ (.int .i64 F)) [.int .i64 F] 3).bx.cell (i := 0) (by simp)
      simpa using this
    simp only [List.set_cons_succ, List.set_cons_zero] at hwx3
    have hlo := fun k hk => (HOA.out.lt k hk)
    generalize hW3 : (W2.setCell ⟨w.heap.size, 6, none⟩ (.int .i64 F)).alloc (.cells #[.int .i64 F] 3) = W3 at hoa3 hoq3 hwx3 hwo3 hb3 hcf ⊢
    have hs3 : W2.heap.size < W3.heap.size := by rw [← hW3]; simp
    clear hW3
    rw [flat_ints] at hoa3
    have HDL := Lib.hid (del_any (.slice A1 acks.length c1) acks W0.heap.size W2.heap.size F W3 hoa3 (fun k hk => by have := (hlo k hk).2; omega) hcf (by omega))
    clear c6 c7 c8 f6 f7 HWX HWO HOA HBX HX1 HALL
    refine HDL.out.mono ?_
    rintro e w6 ⟨u, rfl, hri6, hg6, hub6⟩
    have HUB := Lib.hid hub6
    clear hub6
    have hoq6 := own_two hoq3 hoa3 (by decide) hg6
    have hwx6 := hwx3.kept hg6 (fun e => by have := (hlo w.heap.size e.symm).1; omega)
    have hwo6 := hwo3.kept hg6 (fun e => by have := (hlo (w.heap.size + 1) e.symm).1; omega)
    have hb6 := below_grown hb3 (by omega) hg6 (fun k hk => by have := (hlo k hk).1; omega)
    obtain ⟨ys, hys⟩ : ∃ ys, ys = upL F acks := ⟨_, rfl⟩
    rw [← hys] at hri6
    obtain ⟨A6, c6, rfl, hc6, hcm6⟩ := hri6.shape
    have f7 := hwx6.frozen 7
    have c7 := hwx6.bx.cell (i := 7) (by simp)
    simp only [List.getElem_cons_succ, List.getElem_cons_zero] at c7
    have hx7 := hwx6.set1 7 (.slice A6 ys.length c6)
    simp only [List.set_cons_succ, List.set_cons_zero] at hx7
    have hr7 := hx7.range
    have ho7 := hwo6.set1Other (k := w.heap.size) (by omega) 7 (.slice A6 ys.length c6)
    have hb7 := hb6.setCell (p := ⟨w.heap.size, 7, none⟩) (Nat.le_refl _) (.slice A6 ys.length c6)
    have hgc7 := grown_cell w6 w.heap.size 7 (.slice A6 ys.length c6)
    have hall7 := sub_all ⟨id, name, topic, want, lease, most, F, ys, queue, note⟩ (av := .slice A6 ys.length c6) (qv := .slice (some ⟨b, off, none⟩) queue.length c2) rfl rfl
    have HRI := Lib.hid hri6
    have HR7 := Lib.hid hr7
    have HO7 := Lib.hid ho7
    have HB7 := Lib.hid hb7
    have HG7 := Lib.hid hgc7
    have HL7 := Lib.hid hall7
    have HQ6 := Lib.hid hoq6
    have HYS := Lib.hid hys
    have HG6 := Lib.hid hg6
    have HWX6 := Lib.hid hwx6
    have HLO := Lib.hid hlo
    clear hri6 hr7 ho7 hb7 hgc7 hall7 hoq6 hys hg6 hwx6 hx7 hwo6 hb6 hoa3 hoq3 hwx3 hwo3 hb3 hcf hlo HDL
    go_wp2_with (first
      | (refine wpList_load_midG (by rfl) 30 (.tmp 2) rfl w.heap.size 0 rfl _ _ HR7.out Tryz.underlying30 rfl size35 ?_)
      | (refine wpList_store_row rfl 30 (.tmp 4) (.tmp 29) rfl (w.heap.size + 1) #[.int .i64 id, sv name, sv topic, sv want, .int .i64 lease, .int .i64 most, .int .i64 F, .slice A6 ys.length c6, .slice (some ⟨b, off, none⟩) queue.length c2, sv note] rfl rfl 30 #[.int .i64 0, .string ⟨#[]⟩, .string ⟨#[]⟩, .string ⟨#[]⟩, .int .i64 0, .int .i64 0, .int .i64 0, .slice none 0 0, .slice none 0 0, .string ⟨#[]⟩] HO7.out size35 rfl HL7.out ?_))
    refine bodyPost_ret (results_cell_row rfl _ _ (w.heap.size + 1) 30 #[.int .i64 id, sv name, sv topic, sv want, .int .i64 lease, .int .i64 most, .int .i64 F, .slice A6 ys.length c6, .slice (some ⟨b, off, none⟩) queue.length c2, sv note] (0, 0) _ rfl (HO7.out.set [.int .i64 id, sv name, sv topic, sv want, .int .i64 lease, .int .i64 most, .int .i64 F, .slice A6 ys.length c6, .slice (some ⟨b, off, none⟩) queue.length c2, sv note]) Tryz.underlying30 rfl size35) rfl ?_
    rw [HEQ.out]
    have hgr7 := grown_row (w6.setCell ⟨w.heap.size, 7, none⟩ (.slice A6 ys.length c6)) (w.heap.size + 1) #[.int .i64 id, sv name, sv topic, sv want, .int .i64 lease, .int .i64 most, .int .i64 F, .slice A6 ys.length c6, .slice (some ⟨b, off, none⟩) queue.length c2, sv note]
    refine ⟨.slice A6 ys.length c6, .slice (some ⟨b, off, none⟩) queue.length c2, by rw [HYS.out]; rfl, ?_, own_rm (own_apart (own_apart HQ6.out HG7.out (fun k hk => by have := (HQ6.out.lt k hk).1; omega)) hgr7 (fun k hk => by have := (HQ6.out.lt k hk).1; omega)), below_setRow HB7.out (by omega) #[.int .i64 id, sv name, sv topic, sv want, .int .i64 lease, .int .i64 most, .int .i64 F, .slice A6 ys.length c6, .slice (some ⟨b, off, none⟩) queue.length c2, sv note]⟩
    rw [← HYS.out]
    refine rl_block fixed_ci HRI.out (Nat.le_trans HG7.out.size hgr7.size) (fun k hk => ?_)
    have hk1 := (HLO.out k (HUB.out k hk)).1
    have hk2 : k < w6.heap.size := by have := (HLO.out k (HUB.out k hk)).2; have := HG6.out.size; omega
    exact (hgr7.block k (Nat.lt_of_lt_of_le hk2 HG7.out.size) (fun e => by injection e; omega)).trans (HG7.out.block k hk2 (fun e => by injection e; omega))
  · have HQW := Lib.hid (show RowKit.wrap64 (next - 1) = q by rw [HQV.out]; cases queue with | nil => rfl | cons m l => simp at hlt0)
    have q1 : ¬ (0 : Int) < (queue.length : Int) := by omega
    clear hlt0
    go_wp2_with (first
      | (refine wpList_max3 rfl (.tmp 18) (.tmp 20) _ rfl rfl rfl (n := F) (by rw [HQW.out]; exact HMX.out) ?_)
      | (refine wpList_store_row rfl 30 (.tmp 2) (.tmp 7) rfl w.heap.size #[.int .i64 id, sv name, sv topic, sv want, .int .i64 lease, .int .i64 most, .int .i64 floor, .slice A1 acks.length c1, .slice A2 queue.length c2, sv note] rfl rfl 30 #[.int .i64 id, sv name, sv topic, sv want, .int .i64 lease, .int .i64 most, .int .i64 floor, .slice Aa acks.length ka, .slice Aq queue.length kq, sv note] HX1.out size35 rfl HALL.out ?_
         generalize hW2 : w1.setRow w.heap.size #[.int .i64 id, sv name, sv topic, sv want, .int .i64 lease, .int .i64 most, .int .i64 floor, .slice A1 acks.length c1, .slice A2 queue.length c2, sv note] = W2 at *
         have c6 := HWX.out.bx.cell (i := 6) (by simp)
         have c7 := HWX.out.bx.cell (i := 7) (by simp)
         have c8 := HWX.out.bx.cell (i := 8) (by simp)
         have f6 := HWX.out.frozen 6
         have f7 := HWX.out.frozen 7
         have hl2 := HWX.out.lt
         simp only [List.getElem_cons_succ, List.getElem_cons_zero] at c6 c7 c8))
    have hs0 := HS0.out
    have hoa3 := (own_apart HOA.out (grown_cell W2 w.heap.size 6 (.int .i64 F)) (fun k hk => by have := (HOA.out.lt k hk).1; omega)).alloc (.cells #[.int .i64 F] 3)
    have hoq3 := (own_apart HOQ.out (grown_cell W2 w.heap.size 6 (.int .i64 F)) (fun k hk => by have := (HOQ.out.lt k hk).1; omega)).alloc (.cells #[.int .i64 F] 3)
    have hwx3 := (HWX.out.set1 6 (.int .i64 F)).alloc (.cells #[.int .i64 F] 3)
    have hwo3 := (HWO.out.set1Other (k := w.heap.size) (by omega) 6 (.int .i64 F)).alloc (.cells #[.int .i64 F] 3)
    have hb3 := (HBX.out.setCell (p := ⟨w.heap.size, 6, none⟩) (Nat.le_refl _) (.int .i64 F)).alloc (by simp; omega) (.cells #[.int .i64 F] 3)
    have hcf : ((W2.setCell ⟨w.heap.size, 6, none⟩ (.int .i64 F)).alloc (.cells #[.int .i64 F] 3)).cell? ⟨W2.heap.size, 0, none⟩ = some (.int .i64 F) := by
      have := (Wh.new (W2.setCell ⟨w.heap.size, 6, none⟩ (.int .i64 F)) [.int .i64 F] 3).bx.cell (i := 0) (by simp)
      simpa using this
    simp only [List.set_cons_succ, List.set_cons_zero] at hwx3
    have hlo := fun k hk => (HOA.out.lt k hk)
    generalize hW3 : (W2.setCell ⟨w.heap.size, 6, none⟩ (.int .i64 F)).alloc (.cells #[.int .i64 F] 3) = W3 at hoa3 hoq3 hwx3 hwo3 hb3 hcf ⊢
    have hs3 : W2.heap.size < W3.heap.size := by rw [← hW3]; simp
    clear hW3
    rw [flat_ints] at hoa3
    have HDL := Lib.hid (del_any (.slice A1 acks.length c1) acks W0.heap.size W2.heap.size F W3 hoa3 (fun k hk => by have := (hlo k hk).2; omega) hcf (by omega))
    clear c6 c7 c8 f6 f7 HWX HWO HOA HBX HX1 HALL
    refine HDL.out.mono ?_
    rintro e w6 ⟨u, rfl, hri6, hg6, hub6⟩
    have HUB := Lib.hid hub6
    clear hub6
    have hoq6 := own_two hoq3 hoa3 (by decide) hg6
    have hwx6 := hwx3.kept hg6 (fun e => by have := (hlo w.heap.size e.symm).1; omega)
    have hwo6 := hwo3.kept hg6 (fun e => by have := (hlo (w.heap.size + 1) e.symm).1; omega)
    have hb6 := below_grown hb3 (by omega) hg6 (fun k hk => by have := (hlo k hk).1; omega)
    obtain ⟨ys, hys⟩ : ∃ ys, ys = upL F acks := ⟨_, rfl⟩
    rw [← hys] at hri6
    obtain ⟨A6, c6, rfl, hc6, hcm6⟩ := hri6.shape
    have f7 := hwx6.frozen 7
    have c7 := hwx6.bx.cell (i := 7) (by simp)
    simp only [List.getElem_cons_succ, List.getElem_cons_zero] at c7
    have hx7 := hwx6.set1 7 (.slice A6 ys.length c6)
    simp only [List.set_cons_succ, List.set_cons_zero] at hx7
    have hr7 := hx7.range
    have ho7 := hwo6.set1Other (k := w.heap.size) (by omega) 7 (.slice A6 ys.length c6)
    have hb7 := hb6.setCell (p := ⟨w.heap.size, 7, none⟩) (Nat.le_refl _) (.slice A6 ys.length c6)
    have hgc7 := grown_cell w6 w.heap.size 7 (.slice A6 ys.length c6)
    have hall7 := sub_all ⟨id, name, topic, want, lease, most, F, ys, queue, note⟩ (av := .slice A6 ys.length c6) (qv := .slice A2 queue.length c2) rfl rfl
    have HRI := Lib.hid hri6
    have HR7 := Lib.hid hr7
    have HO7 := Lib.hid ho7
    have HB7 := Lib.hid hb7
    have HG7 := Lib.hid hgc7
    have HL7 := Lib.hid hall7
    have HQ6 := Lib.hid hoq6
    have HYS := Lib.hid hys
    have HG6 := Lib.hid hg6
    have HWX6 := Lib.hid hwx6
    have HLO := Lib.hid hlo
    clear hri6 hr7 ho7 hb7 hgc7 hall7 hoq6 hys hg6 hwx6 hx7 hwo6 hb6 hoa3 hoq3 hwx3 hwo3 hb3 hcf hlo HDL
    go_wp2_with (first
      | (refine wpList_load_midG (by rfl) 30 (.tmp 2) rfl w.heap.size 0 rfl _ _ HR7.out Tryz.underlying30 rfl size35 ?_)
      | (refine wpList_store_row rfl 30 (.tmp 4) (.tmp 29) rfl (w.heap.size + 1) #[.int .i64 id, sv name, sv topic, sv want, .int .i64 lease, .int .i64 most, .int .i64 F, .slice A6 ys.length c6, .slice A2 queue.length c2, sv note] rfl rfl 30 #[.int .i64 0, .string ⟨#[]⟩, .string ⟨#[]⟩, .string ⟨#[]⟩, .int .i64 0, .int .i64 0, .int .i64 0, .slice none 0 0, .slice none 0 0, .string ⟨#[]⟩] HO7.out size35 rfl HL7.out ?_))
    refine bodyPost_ret (results_cell_row rfl _ _ (w.heap.size + 1) 30 #[.int .i64 id, sv name, sv topic, sv want, .int .i64 lease, .int .i64 most, .int .i64 F, .slice A6 ys.length c6, .slice A2 queue.length c2, sv note] (0, 0) _ rfl (HO7.out.set [.int .i64 id, sv name, sv topic, sv want, .int .i64 lease, .int .i64 most, .int .i64 F, .slice A6 ys.length c6, .slice A2 queue.length c2, sv note]) Tryz.underlying30 rfl size35) rfl ?_
    rw [HEQ.out]
    have hgr7 := grown_row (w6.setCell ⟨w.heap.size, 7, none⟩ (.slice A6 ys.length c6)) (w.heap.size + 1) #[.int .i64 id, sv name, sv topic, sv want, .int .i64 lease, .int .i64 most, .int .i64 F, .slice A6 ys.length c6, .slice A2 queue.length c2, sv note]
    refine ⟨.slice A6 ys.length c6, .slice A2 queue.length c2, by rw [HYS.out]; rfl, ?_, own_rm (own_apart (own_apart HQ6.out HG7.out (fun k hk => by have := (HQ6.out.lt k hk).1; omega)) hgr7 (fun k hk => by have := (HQ6.out.lt k hk).1; omega)), below_setRow HB7.out (by omega) #[.int .i64 id, sv name, sv topic, sv want, .int .i64 lease, .int .i64 most, .int .i64 F, .slice A6 ys.length c6, .slice A2 queue.length c2, sv note]⟩
    rw [← HYS.out]
    refine rl_block fixed_ci HRI.out (Nat.le_trans HG7.out.size hgr7.size) (fun k hk => ?_)
    have hk1 := (HLO.out k (HUB.out k hk)).1
    have hk2 : k < w6.heap.size := by have := (HLO.out k (HUB.out k hk)).2; have := HG6.out.size; omega
    exact (hgr7.block k (Nat.lt_of_lt_of_le hk2 HG7.out.size) (fun e => by injection e; omega)).trans (HG7.out.block k hk2 (fun e => by injection e; omega))
end Go.Proofs.YtodckdkbheapfaaGreat
set_option linter.unusedVariables false
namespace Go.Proofs.YtodckdkbheapfaaGreat
open Go.RowKit Go.Rst Go.Tp Go.Ts
set_option maxRecDepth 100000 in
set_option maxHeartbeats 8000000 in
theorem settleO_any (x : Sub) (av qv : Value) (next : Int) (w : World) (ha : Go.Ts.RI w av x.acks) (hq : RM w qv x.queue) (hz : Sized x) :
    Calls Tryz.prog 78 #[.agg (subC x av qv).toArray, .int .i64 next] w (fun e w' => ∃ av qv, e = .returned (.agg (subC (settleS x next) av qv).toArray) ∧ Go.Ts.RI w' av (settleS x next).acks ∧ RM w' qv (settleS x next).queue ∧ Below w.heap.size w w' ∧ (∀ k, av.ownBlock = some k → w.heap.size ≤ k) ∧ (∀ k, qv.ownBlock = some k → w.heap.size ≤ k)) := by
  have hz1 := hz.1
  have HZ := Lib.hid hz
  obtain ⟨Aa, ka, rfl, _, ham⟩ := ha.shape
  obtain ⟨Aq, kq, rfl, _, hqm⟩ := hq.shape
  unfold maxLen at ham hqm
  obtain ⟨xx, hxx⟩ : ∃ xx, xx = x := ⟨_, rfl⟩
  rw [show settleS x next = settleS xx next by rw [hxx]]
  have hb0 := below_two w (subC x (.slice Aa x.acks.length ka) (.slice Aq x.queue.length kq)).toArray #[.int .i64 0, .string ⟨#[]⟩, .string ⟨#[]⟩, .string ⟨#[]⟩, .int .i64 0, .int .i64 0, .int .i64 0, .slice none 0 0, .slice none 0 0, .string ⟨#[]⟩] 30 30
  have HOW := Lib.hid (own2_any x (.slice Aa x.acks.length ka) (.slice Aq x.queue.length kq) _ (ha.below stays_ci hb0) (hq.below stays_cm hb0) hz)
  have HXX := Lib.hid hxx
  have hx0 : Wh _ w.heap.size (subC x (.slice Aa x.acks.length ka) (.slice Aq x.queue.length kq)) 30 := (Wh.new w (subC x (.slice Aa x.acks.length ka) (.slice Aq x.queue.length kq)) 30).alloc (.cells #[.int .i64 0, .string ⟨#[]⟩, .string ⟨#[]⟩, .string ⟨#[]⟩, .int .i64 0, .int .i64 0, .int .i64 0, .slice none 0 0, .slice none 0 0, .string ⟨#[]⟩] 30)
  have ho0 : Wh ((w.alloc (.cells (subC x (.slice Aa x.acks.length ka) (.slice Aq x.queue.length kq)).toArray 30)).alloc (.cells #[.int .i64 0, .string ⟨#[]⟩, .string ⟨#[]⟩, .string ⟨#[]⟩, .int .i64 0, .int .i64 0, .int .i64 0, .slice none 0 0, .slice none 0 0, .string ⟨#[]⟩] 30)) (w.heap.size + 1) [.int .i64 0, .string ⟨#[]⟩, .string ⟨#[]⟩, .string ⟨#[]⟩, .int .i64 0, .int .i64 0, .int .i64 0, .slice none 0 0, .slice none 0 0, .string ⟨#[]⟩] 30 := by
    have := Wh.new (w.alloc (.cells (subC x (.slice Aa x.acks.length ka) (.slice Aq x.queue.length kq)).toArray 30)) [.int .i64 0, .string ⟨#[]⟩, .string ⟨#[]⟩, .string ⟨#[]⟩, .int .i64 0, .int .i64 0, .int .i64 0, .slice none 0 0, .slice none 0 0, .string ⟨#[]⟩] 30
    rw [World.size_alloc] at this
    exact this
  obtain ⟨id, name, topic, want, lease, most, floor, acks, queue, note⟩ := x
  simp only [subC] at hx0 ho0 hb0 HOW ⊢
  have HX0 := Lib.hid hx0
  have HR0 := Lib.hid hx0.range
  have HO0 := Lib.hid ho0
  have HB0 := Lib.hid hb0
  have HA := Lib.hid ha
  have HQ := Lib.hid hq
  clear ha hq hx0 ho0 hb0 hz hxx
  go_enter Tryz.func78, Tryz.ntmps78
  go_wp2_with (refine wpList_load_midG (by rfl) 30 (.tmp 2) rfl w.heap.size 0 rfl _ _ HR0.out Tryz.underlying30 rfl size35 ?_)
  generalize hW0 : (w.alloc (.cells #[.int .i64 id, sv name, sv topic, sv want, .int .i64 lease, .int .i64 most, .int .i64 floor, .slice Aa acks.length ka, .slice Aq queue.length kq, sv note] 30)).alloc (.cells #[.int .i64 0, .string ⟨#[]⟩, .string ⟨#[]⟩, .string ⟨#[]⟩, .int .i64 0, .int .i64 0, .int .i64 0, .slice none 0 0, .slice none 0 0, .string ⟨#[]⟩] 30) = W0 at HX0 HR0 HO0 HB0 HOW ⊢
  have hs0 : W0.heap.size = w.heap.size + 2 := by rw [← hW0]; simp
  have HS0 := Lib.hid hs0
  clear hW0 hs0
  refine HOW.out.mono ?_
  rintro e w1 ⟨av1, qv1, rfl, hoa, hoq, hb1⟩
  have hra := (rlt_ints hoa).rl
  have hrq := own_rm hoq
  obtain ⟨A1, c1, rfl, hc1, hcm1⟩ := hra.shape
  obtain ⟨A2, c2, rfl, hc2, hcm2⟩ := hrq.shape
  unfold maxLen at hcm1 hcm2
  simp only [subC]
  have hbt := HB0.out.trans (hb1.mono HB0.out.size)
  have hx1 := HX0.out.below hb1
  have ho1 := HO0.out.below hb1
  obtain ⟨X1, hX1⟩ : ∃ X1 : List Value, X1 = [.int .i64 id, sv name, sv topic, sv want, .int .i64 lease, .int .i64 most, .int .i64 floor, .slice A1 acks.length c1, .slice A2 queue.length c2, sv note] := ⟨_, rfl⟩
  have hall := sub_all ⟨id, name, topic, want, lease, most, floor, acks, queue, note⟩ (av := .slice A1 acks.length c1) (qv := .slice A2 queue.length c2) rfl rfl
  have HALL := Lib.hid hall
  have hgr := grown_row w1 w.heap.size X1.toArray
  have HWX := Lib.hid (hx1.set X1)
  have HWO := Lib.hid (ho1.setOther (k := w.heap.size) (by omega) X1.toArray)
  have HOA := Lib.hid (own_apart hoa hgr (fun k hk => by have := (hoa.lt k hk).1; have := HS0.out; omega))
  have HOQ := Lib.hid (own_apart hoq hgr (fun k hk => by have := (hoq.lt k hk).1; have := HS0.out; omega))
  have HBX := Lib.hid (below_setRow hbt (Nat.le_refl w.heap.size) X1.toArray)
  have HX1 := Lib.hid hx1
  clear hoa hoq hra hrq hb1 hbt hx1 ho1 hgr hall HX0 HR0 HO0 HOW
  rw [hX1] at HWX HWO HOA HOQ HBX
  clear hX1 X1
  have hq0 := HOQ.out
  obtain ⟨q, hqv⟩ : ∃ q, q = w64 ((match queue with | [] => next | m :: _ => m.seq) - 1) := ⟨_, rfl⟩
  obtain ⟨F, hF⟩ : ∃ F, F = max floor q := ⟨_, rfl⟩
  have HEQ := Lib.hid (show settleS xx next = ⟨id, name, topic, want, lease, most, F, upL F acks, queue, note⟩ by rw [HXX.out, hF, hqv]; rfl)
  have HMX := Lib.hid (show (if q > floor then q else floor) = F by rw [hF]; split <;> omega)
  have HQV := Lib.hid hqv
  clear hq0 hqv hF
  by_cases hlt0 : 0 < queue.length
  · obtain ⟨b, off, hAq, hbq, hrg⟩ := rm_at (own_rm HOQ.out) hlt0
    have HAQ := Lib.hid hAq
    subst hAq
    have hc0 := hrg 0 (.int .i64 queue[0].seq) rfl
    simp only [Nat.add_zero, Nat.zero_mul] at hc0
    have HQW := Lib.hid (show RowKit.wrap64 (queue[0].seq - 1) = q by rw [HQV.out]; cases queue with | nil => simp at hlt0 | cons m l => rfl)
    obtain ⟨s, hs⟩ : ∃ s, s = queue[0].seq := ⟨_, rfl⟩
    rw [← hs] at hc0 HQW
    clear hs hrg
    have q1 : (0 : Int) < (queue.length : Int) := by omega
    go_wp2_with (first
      | (refine wpList_max3 rfl (.tmp 18) (.tmp 20) _ rfl rfl rfl (n := F) (by rw [HQW.out]; exact HMX.out) ?_)
      | (refine wpList_store_row rfl 30 (.tmp 2) (.tmp 7) rfl w.heap.size #[.int .i64 id, sv name, sv topic, sv want, .int .i64 lease, .int .i64 most, .int .i64 floor, .slice A1 acks.length c1, .slice (some ⟨b, off, none⟩) queue.length c2, sv note] rfl rfl 30 #[.int .i64 id, sv name, sv topic, sv want, .int .i64 lease, .int .i64 most, .int .i64 floor, .slice Aa acks.length ka, .slice Aq queue.length kq, sv note] HX1.out size35 rfl HALL.out ?_
         generalize hW2 : w1.setRow w.heap.size #[.int .i64 id, sv name, sv topic, sv want, .int .i64 lease, .int .i64 most, .int .i64 floor, .slice A1 acks.length c1, .slice (some ⟨b, off, none⟩) queue.length c2, sv note] = W2 at *
         have c6 := HWX.out.bx.cell (i := 6) (by simp)
         have c7 := HWX.out.bx.cell (i := 7) (by simp)
         have c8 := HWX.out.bx.cell (i := 8) (by simp)
         have f6 := HWX.out.frozen 6
         have f7 := HWX.out.frozen 7
         have hl2 := HWX.out.lt
         simp only [List.getElem_cons_succ, List.getElem_cons_zero] at c6 c7 c8))
    have hs0 := HS0.out
    have hoa3 := (own_apart HOA.out (grown_cell W2 w.heap.size 6 (.int .i64 F)) (fun k hk => by have := (HOA.out.lt k hk).1; omega)).alloc (.cells #[.int .i64 F] 3)
    have hoq3 := (own_apart HOQ.out (grown_cell W2 w.heap.size 6 (.int .i64 F)) (fun k hk => by have := (HOQ.out.lt k hk).1; omega)).alloc (.cells #[.int .i64 F] 3)
    have hwx3 := (HWX.out.set1 6 (.int .i64 F)).alloc (.cells #[.int .i64 F] 3)
    have hwo3 := (HWO.out.set1Other (k := w.heap.size) (by omega) 6 (.int .i64 F)).alloc (.cells #[.int .i64 F] 3)
    have hb3 := (HBX.out.setCell (p := ⟨w.heap.size, 6, none⟩) (Nat.le_refl _) (.int .i64 F)).alloc (by simp; omega) (.cells #[.int .i64 F] 3)
    have hcf : ((W2.setCell ⟨w.heap.size, 6, none⟩ (.int .i64 F)).alloc (.cells #[.int .i64 F] 3)).cell? ⟨W2.heap.size, 0, none⟩ = some (.int .i64 F) := by
      have := (Wh.new (W2.setCell ⟨w.heap.size, 6, none⟩ (.int .i64 F)) [.int .i64 F] 3).bx.cell (i := 0) (by simp)
      simpa using this
    simp only [List.set_cons_succ, List.set_cons_zero] at hwx3
    have hlo := fun k hk => (HOA.out.lt k hk)
    generalize hW3 : (W2.setCell ⟨w.heap.size, 6, none⟩ (.int .i64 F)).alloc (.cells #[.int .i64 F] 3) = W3 at hoa3 hoq3 hwx3 hwo3 hb3 hcf ⊢
    have hs3 : W2.heap.size < W3.heap.size := by rw [← hW3]; simp
    clear hW3
    rw [flat_ints] at hoa3
    have HDL := Lib.hid (del_any (.slice A1 acks.length c1) acks W0.heap.size W2.heap.size F W3 hoa3 (fun k hk => by have := (hlo k hk).2; omega) hcf (by omega))
    clear c6 c7 c8 f6 f7 HWX HWO HOA HBX HX1 HALL
    refine HDL.out.mono ?_
    rintro e w6 ⟨u, rfl, hri6, hg6, hub6⟩
    have HUB := Lib.hid hub6
    clear hub6
    have hoq6 := own_two hoq3 hoa3 (by decide) hg6
    have hwx6 := hwx3.kept hg6 (fun e => by have := (hlo w.heap.size e.symm).1; omega)
    have hwo6 := hwo3.kept hg6 (fun e => by have := (hlo (w.heap.size + 1) e.symm).1; omega)
    have hb6 := below_grown hb3 (by omega) hg6 (fun k hk => by have := (hlo k hk).1; omega)
    obtain ⟨ys, hys⟩ : ∃ ys, ys = upL F acks := ⟨_, rfl⟩
    rw [← hys] at hri6
    obtain ⟨A6, c6, rfl, hc6, hcm6⟩ := hri6.shape
    have f7 := hwx6.frozen 7
    have c7 := hwx6.bx.cell (i := 7) (by simp)
    simp only [List.getElem_cons_succ, List.getElem_cons_zero] at c7
    have hx7 := hwx6.set1 7 (.slice A6 ys.length c6)
    simp only [List.set_cons_succ, List.set_cons_zero] at hx7
    have hr7 := hx7.range
    have ho7 := hwo6.set1Other (k := w.heap.size) (by omega) 7 (.slice A6 ys.length c6)
    have hb7 := hb6.setCell (p := ⟨w.heap.size, 7, none⟩) (Nat.le_refl _) (.slice A6 ys.length c6)
    have hgc7 := grown_cell w6 w.heap.size 7 (.slice A6 ys.length c6)
    have hall7 := sub_all ⟨id, name, topic, want, lease, most, F, ys, queue, note⟩ (av := .slice A6 ys.length c6) (qv := .slice (some ⟨b, off, none⟩) queue.length c2) rfl rfl
    have HRI := Lib.hid hri6
    have HR7 := Lib.hid hr7
    have HO7 := Lib.hid ho7
    have HB7 := Lib.hid hb7
    have HG7 := Lib.hid hgc7
    have HL7 := Lib.hid hall7
    have HQ6 := Lib.hid hoq6
    have HYS := Lib.hid hys
    have HG6 := Lib.hid hg6
    have HWX6 := Lib.hid hwx6
    have HLO := Lib.hid hlo
    clear hri6 hr7 ho7 hb7 hgc7 hall7 hoq6 hys hg6 hwx6 hx7 hwo6 hb6 hoa3 hoq3 hwx3 hwo3 hb3 hcf hlo HDL
    go_wp2_with (first
      | (refine wpList_load_midG (by rfl) 30 (.tmp 2) rfl w.heap.size 0 rfl _ _ HR7.out Tryz.underlying30 rfl size35 ?_)
      | (refine wpList_store_row rfl 30 (.tmp 4) (.tmp 29) rfl (w.heap.size + 1) #[.int .i64 id, sv name, sv topic, sv want, .int .i64 lease, .int .i64 most, .int .i64 F, .slice A6 ys.length c6, .slice (some ⟨b, off, none⟩) queue.length c2, sv note] rfl rfl 30 #[.int .i64 0, .string ⟨#[]⟩, .string ⟨#[]⟩, .string ⟨#[]⟩, .int .i64 0, .int .i64 0, .int .i64 0, .slice none 0 0, .slice none 0 0, .string ⟨#[]⟩] HO7.out size35 rfl HL7.out ?_))
    refine bodyPost_ret (results_cell_row rfl _ _ (w.heap.size + 1) 30 #[.int .i64 id, sv name, sv topic, sv want, .int .i64 lease, .int .i64 most, .int .i64 F, .slice A6 ys.length c6, .slice (some ⟨b, off, none⟩) queue.length c2, sv note] (0, 0) _ rfl (HO7.out.set [.int .i64 id, sv name, sv topic, sv want, .int .i64 lease, .int .i64 most, .int .i64 F, .slice A6 ys.length c6, .slice (some ⟨b, off, none⟩) queue.length c2, sv note]) Tryz.underlying30 rfl size35) rfl ?_
    rw [HEQ.out]
    have hgr7 := grown_row (w6.setCell ⟨w.heap.size, 7, none⟩ (.slice A6 ys.length c6)) (w.heap.size + 1) #[.int .i64 id, sv name, sv topic, sv want, .int .i64 lease, .int .i64 most, .int .i64 F, .slice A6 ys.length c6, .slice (some ⟨b, off, none⟩) queue.length c2, sv note]
    refine ⟨.slice A6 ys.length c6, .slice (some ⟨b, off, none⟩) queue.length c2, (by first | (rw [HYS.out]; done) | (rw [HYS.out]; rfl)), ?_, own_rm (own_apart (own_apart HQ6.out HG7.out (fun k hk => by have := (HQ6.out.lt k hk).1; omega)) hgr7 (fun k hk => by have := (HQ6.out.lt k hk).1; omega)), below_setRow HB7.out (by omega) #[.int .i64 id, sv name, sv topic, sv want, .int .i64 lease, .int .i64 most, .int .i64 F, .slice A6 ys.length c6, .slice (some ⟨b, off, none⟩) queue.length c2, sv note], fun k hk => by have := (HLO.out k (HUB.out k hk)).1; omega, fun k hk => by have := (HQ6.out.lt k hk).1; omega⟩
    rw [← HYS.out]
    refine rl_block fixed_ci HRI.out (Nat.le_trans HG7.out.size hgr7.size) (fun k hk => ?_)
    have hk1 := (HLO.out k (HUB.out k hk)).1
    have hk2 : k < w6.heap.size := by have := (HLO.out k (HUB.out k hk)).2; have := HG6.out.size; omega
    exact (hgr7.block k (Nat.lt_of_lt_of_le hk2 HG7.out.size) (fun e => by injection e; omega)).trans (HG7.out.block k hk2 (fun e => by injection e; omega))
  · have HQW := Lib.hid (show RowKit.wrap64 (next - 1) = q by rw [HQV.out]; cases queue with | nil => rfl | cons m l => simp at hlt0)
    have q1 : ¬ (0 : Int) < (queue.length : Int) := by omega
    clear hlt0
    go_wp2_with (first
      | (refine wpList_max3 rfl (.tmp 18) (.tmp 20) _ rfl rfl rfl (n := F) (by rw [HQW.out]; exact HMX.out) ?_)
      | (refine wpList_store_row rfl 30 (.tmp 2) (.tmp 7) rfl w.heap.size #[.int .i64 id, sv name, sv topic, sv want, .int .i64 lease, .int .i64 most, .int .i64 floor, .slice A1 acks.length c1, .slice A2 queue.length c2, sv note] rfl rfl 30 #[.int .i64 id, sv name, sv topic, sv want, .int .i64 lease, .int .i64 most, .int .i64 floor, .slice Aa acks.length ka, .slice Aq queue.length kq, sv note] HX1.out size35 rfl HALL.out ?_
         generalize hW2 : w1.setRow w.heap.size #[.int .i64 id, sv name, sv topic, sv want, .int .i64 lease, .int .i64 most, .int .i64 floor, .slice A1 acks.length c1, .slice A2 queue.length c2, sv note] = W2 at *
         have c6 := HWX.out.bx.cell (i := 6) (by simp)
         have c7 := HWX.out.bx.cell (i := 7) (by simp)
         have c8 := HWX.out.bx.cell (i := 8) (by simp)
         have f6 := HWX.out.frozen 6
         have f7 := HWX.out.frozen 7
         have hl2 := HWX.out.lt
         simp only [List.getElem_cons_succ, List.getElem_cons_zero] at c6 c7 c8))
    have hs0 := HS0.out
    have hoa3 := (own_apart HOA.out (grown_cell W2 w.heap.size 6 (.int .i64 F)) (fun k hk => by have := (HOA.out.lt k hk).1; omega)).alloc (.cells #[.int .i64 F] 3)
    have hoq3 := (own_apart HOQ.out (grown_cell W2 w.heap.size 6 (.int .i64 F)) (fun k hk => by have := (HOQ.out.lt k hk).1; omega)).alloc (.cells #[.int .i64 F] 3)
    have hwx3 := (HWX.out.set1 6 (.int .i64 F)).alloc (.cells #[.int .i64 F] 3)
    have hwo3 := (HWO.out.set1Other (k := w.heap.size) (by omega) 6 (.int .i64 F)).alloc (.cells #[.int .i64 F] 3)
    have hb3 := (HBX.out.setCell (p := ⟨w.heap.size, 6, none⟩) (Nat.le_refl _) (.int .i64 F)).alloc (by simp; omega) (.cells #[.int .i64 F] 3)
    have hcf : ((W2.setCell ⟨w.heap.size, 6, none⟩ (.int .i64 F)).alloc (.cells #[.int .i64 F] 3)).cell? ⟨W2.heap.size, 0, none⟩ = some (.int .i64 F) := by
      have := (Wh.new (W2.setCell ⟨w.heap.size, 6, none⟩ (.int .i64 F)) [.int .i64 F] 3).bx.cell (i := 0) (by simp)
      simpa using this
    simp only [List.set_cons_succ, List.set_cons_zero] at hwx3
    have hlo := fun k hk => (HOA.out.lt k hk)
    generalize hW3 : (W2.setCell ⟨w.heap.size, 6, none⟩ (.int .i64 F)).alloc (.cells #[.int .i64 F] 3) = W3 at hoa3 hoq3 hwx3 hwo3 hb3 hcf ⊢
    have hs3 : W2.heap.size < W3.heap.size := by rw [← hW3]; simp
    clear hW3
    rw [flat_ints] at hoa3
    have HDL := Lib.hid (del_any (.slice A1 acks.length c1) acks W0.heap.size W2.heap.size F W3 hoa3 (fun k hk => by have := (hlo k hk).2; omega) hcf (by omega))
    clear c6 c7 c8 f6 f7 HWX HWO HOA HBX HX1 HALL
    refine HDL.out.mono ?_
    rintro e w6 ⟨u, rfl, hri6, hg6, hub6⟩
    have HUB := Lib.hid hub6
    clear hub6
    have hoq6 := own_two hoq3 hoa3 (by decide) hg6
    have hwx6 := hwx3.kept hg6 (fun e => by have := (hlo w.heap.size e.symm).1; omega)
    have hwo6 := hwo3.kept hg6 (fun e => by have := (hlo (w.heap.size + 1) e.symm).1; omega)
    have hb6 := below_grown hb3 (by omega) hg6 (fun k hk => by have := (hlo k hk).1; omega)
    obtain ⟨ys, hys⟩ : ∃ ys, ys = upL F acks := ⟨_, rfl⟩
    rw [← hys] at hri6
    obtain ⟨A6, c6, rfl, hc6, hcm6⟩ := hri6.shape
    have f7 := hwx6.frozen 7
    have c7 := hwx6.bx.cell (i := 7) (by simp)
    simp only [List.getElem_cons_succ, List.getElem_cons_zero] at c7
    have hx7 := hwx6.set1 7 (.slice A6 ys.length c6)
    simp only [List.set_cons_succ, List.set_cons_zero] at hx7
    have hr7 := hx7.range
    have ho7 := hwo6.set1Other (k := w.heap.size) (by omega) 7 (.slice A6 ys.length c6)
    have hb7 := hb6.setCell (p := ⟨w.heap.size, 7, none⟩) (Nat.le_refl _) (.slice A6 ys.length c6)
    have hgc7 := grown_cell w6 w.heap.size 7 (.slice A6 ys.length c6)
    have hall7 := sub_all ⟨id, name, topic, want, lease, most, F, ys, queue, note⟩ (av := .slice A6 ys.length c6) (qv := .slice A2 queue.length c2) rfl rfl
    have HRI := Lib.hid hri6
    have HR7 := Lib.hid hr7
    have HO7 := Lib.hid ho7
    have HB7 := Lib.hid hb7
    have HG7 := Lib.hid hgc7
    have HL7 := Lib.hid hall7
    have HQ6 := Lib.hid hoq6
    have HYS := Lib.hid hys
    have HG6 := Lib.hid hg6
    have HWX6 := Lib.hid hwx6
    have HLO := Lib.hid hlo
    clear hri6 hr7 ho7 hb7 hgc7 hall7 hoq6 hys hg6 hwx6 hx7 hwo6 hb6 hoa3 hoq3 hwx3 hwo3 hb3 hcf hlo HDL
    go_wp2_with (first
      | (refine wpList_load_midG (by rfl) 30 (.tmp 2) rfl w.heap.size 0 rfl _ _ HR7.out Tryz.underlying30 rfl size35 ?_)
      | (refine wpList_store_row rfl 30 (.tmp 4) (.tmp 29) rfl (w.heap.size + 1) #[.int .i64 id, sv name, sv topic, sv want, .int .i64 lease, .int .i64 most, .int .i64 F, .slice A6 ys.length c6, .slice A2 queue.length c2, sv note] rfl rfl 30 #[.int .i64 0, .string ⟨#[]⟩, .string ⟨#[]⟩, .string ⟨#[]⟩, .int .i64 0, .int .i64 0, .int .i64 0, .slice none 0 0, .slice none 0 0, .string ⟨#[]⟩] HO7.out size35 rfl HL7.out ?_))
    refine bodyPost_ret (results_cell_row rfl _ _ (w.heap.size + 1) 30 #[.int .i64 id, sv name, sv topic, sv want, .int .i64 lease, .int .i64 most, .int .i64 F, .slice A6 ys.length c6, .slice A2 queue.length c2, sv note] (0, 0) _ rfl (HO7.out.set [.int .i64 id, sv name, sv topic, sv want, .int .i64 lease, .int .i64 most, .int .i64 F, .slice A6 ys.length c6, .slice A2 queue.length c2, sv note]) Tryz.underlying30 rfl size35) rfl ?_
    rw [HEQ.out]
    have hgr7 := grown_row (w6.setCell ⟨w.heap.size, 7, none⟩ (.slice A6 ys.length c6)) (w.heap.size + 1) #[.int .i64 id, sv name, sv topic, sv want, .int .i64 lease, .int .i64 most, .int .i64 F, .slice A6 ys.length c6, .slice A2 queue.length c2, sv note]
    refine ⟨.slice A6 ys.length c6, .slice A2 queue.length c2, (by first | (rw [HYS.out]; done) | (rw [HYS.out]; rfl)), ?_, own_rm (own_apart (own_apart HQ6.out HG7.out (fun k hk => by have := (HQ6.out.lt k hk).1; omega)) hgr7 (fun k hk => by have := (HQ6.out.lt k hk).1; omega)), below_setRow HB7.out (by omega) #[.int .i64 id, sv name, sv topic, sv want, .int .i64 lease, .int .i64 most, .int .i64 F, .slice A6 ys.length c6, .slice A2 queue.length c2, sv note], fun k hk => by have := (HLO.out k (HUB.out k hk)).1; omega, fun k hk => by have := (HQ6.out.lt k hk).1; omega⟩
    rw [← HYS.out]
    refine rl_block fixed_ci HRI.out (Nat.le_trans HG7.out.size hgr7.size) (fun k hk => ?_)
    have hk1 := (HLO.out k (HUB.out k hk)).1
    have hk2 : k < w6.heap.size := by have := (HLO.out k (HUB.out k hk)).2; have := HG6.out.size; omega
    exact (hgr7.block k (Nat.lt_of_lt_of_le hk2 HG7.out.size) (fun e => by injection e; omega)).trans (HG7.out.block k hk2 (fun e => by injection e; omega))
end Go.Proofs.YtodckdkbheapfaaGreat
