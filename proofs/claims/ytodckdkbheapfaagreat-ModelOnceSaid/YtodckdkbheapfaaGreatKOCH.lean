/-
  The contract of slices.Insert of one subscription into a row of the call's own (layer state).
-/
import Derived.Deep.RegionLaw
import Derived.Shelf.RegionOpenPlain
import Derived.Lib.Walk
import Derived.Lib.Overlaps
import Derived.Laws.Externs
import Derived.Test.YtodckdkbheapfaaGreatKOCD
import Derived.Test.YtodckdkbheapfaaGreatKOCG
set_option linter.unusedVariables false
set_option linter.unusedVariables false
namespace Go.Ts
open Go Go.Rst
theorem css_len {css : List (List Value)} (h : ∀ cs ∈ css, cs.length = 10) : css.flatten.length = css.length * 10 := flatten_len css h
theorem css_take : ∀ {css : List (List Value)} (i : Nat), (∀ cs ∈ css, cs.length = 10) → (css.take i).flatten = css.flatten.take (i * 10)
  | [], i, _ => by simp
  | cs :: css, 0, _ => by simp
  | cs :: css, i + 1, h => by
    have hc := h cs List.mem_cons_self
    rw [List.take_succ_cons, List.flatten_cons, List.flatten_cons, css_take i (fun x hx => h x (List.mem_cons_of_mem _ hx)), List.take_append, hc, List.take_of_length_le (l := cs) (by omega), show (i + 1) * 10 - 10 = i * 10 by omega]
theorem css_drop : ∀ {css : List (List Value)} (i : Nat), (∀ cs ∈ css, cs.length = 10) → (css.drop i).flatten = css.flatten.drop (i * 10)
  | [], i, _ => by simp
  | cs :: css, 0, _ => by simp
  | cs :: css, i + 1, h => by
    have hc := h cs List.mem_cons_self
    rw [List.drop_succ_cons, List.flatten_cons, css_drop i (fun x hx => h x (List.mem_cons_of_mem _ hx)), List.drop_append, hc, List.drop_of_length_le (l := cs) (by omega), List.nil_append, show (i + 1) * 10 - 10 = i * 10 by omega]
theorem css_mid {css : List (List Value)} (i : Nat) (cs : List Value) (h : ∀ cs ∈ css, cs.length = 10) : (css.take i ++ cs :: css.drop i).flatten = css.flatten.take (i * 10) ++ cs ++ css.flatten.drop (i * 10) := by
  rw [List.flatten_append, List.flatten_cons, css_take i h, css_drop i h, List.append_assoc]
end Go.Ts
namespace Go.Proofs.YtodckdkbheapfaaGreat
open Go.RowKit Go.Rst Go.Tp Go.Ts Go.Lib
theorem rlt_one {α : Type} {t : TypeId} {sz : Nat} {C : World → α → List Value → Prop} {w : World} {v : Value} {xs : List α} (h : RLt t sz C w v xs) : v.oneCell' = true := rl_one h.rl
theorem cn_one {w : World} {y : Sub} {cs : List Value} (h : CN w y cs) : ∀ u ∈ cs, u.oneCell' = true := by
  obtain ⟨av, qv, rfl, h1, h2⟩ := h
  have := sub_all y (rlt_one h1) (rlt_one h2)
  intro u hu
  exact Array.all_eq_true_iff_forall_mem.1 this u (by simpa using hu)
def CNs (w : World) (ys : List Sub) (css : List (List Value)) : Prop := css.length = ys.length ∧ ∀ j (h1 : j < ys.length) (h2 : j < css.length), CN w ys[j] css[j]
theorem CNs.len {w : World} {ys : List Sub} {css : List (List Value)} (h : CNs w ys css) : ∀ cs ∈ css, cs.length = 10 := fun cs hcs => by
  obtain ⟨j, hj, rfl⟩ := List.getElem_of_mem hcs
  exact cs_len (h.2 j (by have := h.1; omega) hj).cs
theorem CNs.one {w : World} {ys : List Sub} {css : List (List Value)} (h : CNs w ys css) : ∀ u ∈ css.flatten, u.oneCell' = true := fun u hu => by
  obtain ⟨cs, hcs, hu⟩ := List.mem_flatten.1 hu
  obtain ⟨j, hj, rfl⟩ := List.getElem_of_mem hcs
  exact cn_one (h.2 j (by have := h.1; omega) hj) u hu
theorem CNs.mid {w : World} {ys : List Sub} {css : List (List Value)} (h : CNs w ys css) {y : Sub} {cs : List Value} (hy : CN w y cs) {i : Nat} (hi : i ≤ ys.length) : CNs w (ys.take i ++ y :: ys.drop i) (css.take i ++ cs :: css.drop i) := by
  have hl := h.1
  refine ⟨by simp [hl], fun j h1 h2 => ?_⟩
  rcases Nat.lt_trichotomy j i with hj | hj | hj
  · rw [List.getElem_append_left (by simp; omega), List.getElem_append_left (by simp; omega), List.getElem_take, List.getElem_take]
    exact h.2 j (by omega) (by omega)
  · subst hj
    rw [List.getElem_append_right (by simp; omega), List.getElem_append_right (by simp; omega)]
    simp only [List.length_take, Nat.min_eq_left hi, Nat.min_eq_left (show j ≤ css.length by omega), Nat.sub_self, List.getElem_cons_zero]
    exact hy
  · have h1' : j - 1 < ys.length := by simp at h1; omega
    rw [List.getElem_append_right (by simp; omega), List.getElem_append_right (by simp; omega)]
    obtain ⟨d, hd⟩ : ∃ d, j = i + d + 1 := ⟨j - i - 1, by omega⟩
    subst hd
    simp only [List.length_take, Nat.min_eq_left hi, Nat.min_eq_left (show i ≤ css.length by omega), show i + d + 1 - i = d + 1 by omega, List.getElem_cons_succ, List.getElem_drop]
    exact h.2 (i + d) (by omega) (by omega)
theorem CNs.grown {w w' : World} {ys : List Sub} {css : List (List Value)} {row : Option Nat} (h : CNs w ys css) (hg : w.grownBy w' row) (hne : ∀ g, row = some g → ∃ cur, w.heap[g]? = some (.cells cur 30 (0, 0))) : CNs w' ys css := ⟨h.1, fun j h1 h2 => (h.2 j h1 h2).grown hg hne⟩
theorem CNs.below {w w' : World} {ys : List Sub} {css : List (List Value)} (h : CNs w ys css) (hb : Below w.heap.size w w') : CNs w' ys css := ⟨h.1, fun j h1 h2 => (h.2 j h1 h2).below hb⟩
theorem ON.mk_ {w : World} {base g n cap : Nat} {cur : Array Value} {ys : List Sub} {css : List (List Value)} (hb : base ≤ g) (hg : w.heap[g]? = some (.cells cur 30 (0, 0))) (hn : n = ys.length) (hnc : n ≤ cap) (hcm : cap ≤ maxLen) (hcs : cur.size = cap * 10)
    (htk : cur.toList.take (n * 10) = css.flatten) (hc : CNs w ys css) : ON base w (.slice (some ⟨g, 0, none⟩) n cap) ys := by
  subst hn
  refine ⟨css, ⟨by rw [css_len hc.len, hc.1], .inr ⟨g, cap, cur, rfl, hb, hg, hnc, hcm, hcs, htk⟩⟩, hc.1, hc.2⟩
def GivesIns (w : World) (base : Nat) (r : List Sub) (e : Ending) (w' : World) : Prop := ∃ v', e = .returned v' ∧ ON base w' v' r ∧ Below base w w'
set_option maxRecDepth 100000 in
set_option maxHeartbeats 4000000 in
theorem insert_shift (base i g n cap vb : Nat) (cur : Array Value) (ys : List Sub) (css : List (List Value)) (y : Sub) (cs : List Value) (w : World)
    (hbg : base ≤ g) (hg : w.heap[g]? = some (.cells cur 30 (0, 0))) (hn : n = ys.length) (hcm : cap ≤ maxLen) (hcs : cur.size = cap * 10) (htk : cur.toList.take (n * 10) = css.flatten) (hfs : CNs w ys css)
    (hi : i < n) (hroom : n + 1 ≤ cap) (hvb : w.heap[vb]? = some (.cells cs.toArray 30 (0, 0))) (hvg : vb ≠ g) (hu : CN w y cs) :
    Calls Tryz.prog 102 #[.slice (some ⟨g, 0, none⟩) n cap, .int .i64 i, .slice (some ⟨vb, 0, none⟩) 1 1] w (GivesIns w base (ys.take i ++ y :: ys.drop i)) := by
  obtain ⟨m, hm⟩ : ∃ m, m = 1 := ⟨_, rfl⟩
  rw [show (Value.slice (some ⟨vb, 0, none⟩) 1 1) = .slice (some ⟨vb, 0, none⟩) m m by rw [hm]]
  have hcell : ∀ j, j < n * 10 → w.cell? ⟨g, j, none⟩ = css.flatten[j]? := fun j hj => by
    rw [cell_of_row _ g j cur 30 (0, 0) hg, ← htk, List.getElem?_take, if_pos hj, Array.getElem?_toList]
  have hsome : ∀ j, j < cap * 10 → (w.cell? ⟨g, j, none⟩).isSome = true := fun j hj => by
    rw [cell_of_row _ g j cur 30 (0, 0) hg, Array.getElem?_eq_getElem (by omega)]; rfl
  have hfz : ∀ j, w.frozen? ⟨g, j, none⟩ = false := fun j => by simp [World.frozen?, hg]
  have hone := hfs.one
  have hc10 := hfs.len
  have hcl := hfs.1
  obtain ⟨i0, hi0, hz0, hz1, hz2⟩ := info_parts infoSub
  have hsz : (Tryz.prog.info? 30).map (·.size) = some 10 := by rw [hi0]; simp [hz1]
  have hrl := css_len hc10
  obtain ⟨D, hD⟩ : ∃ D, D = css.flatten.drop (i * 10) := ⟨_, rfl⟩
  have hdl : D.length = (n - i) * 10 := by rw [hD, List.length_drop, hrl, hcl, ← hn]; omega
  obtain ⟨vs, hvs⟩ : ∃ vs : List Value, vs = cs := ⟨_, rfl⟩
  have hvl : vs.length = m * 10 := by rw [hvs, hm, cs_len hu.cs]
  have huo : ∀ x ∈ vs, x.oneCell' = true := by
    intro x hx
    rw [hvs] at hx
    exact cn_one hu x hx
  have hvc : ∀ j x, vs[j]? = some x → w.cell? ⟨vb, j, none⟩ = some x := fun j x hx => by
    rw [cell_of_row _ vb j _ 30 (0, 0) hvb, List.getElem?_toArray, ← hvs]
    exact hx
  have hsa : w.shape? vb = some (30, 10) := by simp [World.shape?, hvb, cs_len hu.cs]
  have hsb : w.shape? g = some (30, cap * 10) := by simp [World.shape?, hg, hcs]
  have hov : ∀ lb cb, (callFunc 132 #[.slice (some ⟨vb, 0, none⟩) m m, .slice (some ⟨g, (i + m) * 10, none⟩) lb cb]).run Tryz.prog w = .ok (.value (.bool false)) w := fun lb cb => by
    rw [run_callFunc_extern Tryz.func132 (by kernel_rfl) (by kernel_rfl) (by kernel_rfl) (e := Extern.SlicesOverlaps.overlaps #[23, 23] #[4]) (by kernel_rfl),
      Lib.run_overlaps_apart w 23 4 30 Tryz.underlying23 10 (fun w => by simp [sizeOf, typeInfo, hi0, hz1]) ⟨vb, 0, none⟩ ⟨g, (i + m) * 10, none⟩ m m lb cb hvg 30 30 10 (cap * 10) hsa hsb (by omega) (by simp [World.frozen?, hvb]) (by simp [World.frozen?, hvb])]
    rfl
  have hcp1 : ∀ ty dc sc, (Builtin.copy_ #[23, 23] ty #[.slice (some ⟨g, (i + m) * 10, none⟩) (n + m - (i + m)) dc, .slice (some ⟨g, i * 10, none⟩) (n + m - i) sc]).run Tryz.prog w.drew = .ok (goInt ((n - i : Nat) : Int)) (w.drew.setCells g ((i + m) * 10) D) := fun ty dc sc =>
    run_copyS w.drew _ _ ty 30 10 g ((i + m) * 10) (n + m - (i + m)) dc ⟨g, i * 10, none⟩ (n + m - i) sc (n - i) D Tryz.underlying23 hsz (by simp only [Nat.min_def]; split <;> omega) hdl
      (fun j x hj => by
        have := (List.getElem?_eq_some_iff.1 hj).1
        rw [Addr.add_lit]
        exact (hcell (i * 10 + j) (by omega)).trans (by rw [hD, List.getElem?_drop] at hj; exact hj))
      (fun j hj => hsome _ (by omega)) (fun j _ => hfz _) (fun x hx => hone x (by rw [hD] at hx; exact List.mem_of_mem_drop hx))
  obtain ⟨W1, hW1⟩ : ∃ W1, W1 = w.drew.setCells g ((i + m) * 10) D := ⟨_, rfl⟩
  have hD1 : ∀ x ∈ D, x.oneCell' = true := fun x hx => hone x (by rw [hD] at hx; exact List.mem_of_mem_drop hx)
  have hrw1 := setCells_row (w := w.drew) (vs := D) (cur := cur) (o := (i + m) * 10) (t := 30) hg (by rw [hdl]; omega) hD1
  have hcl0 := Array.length_toList (xs := cur)
  have hsl := splice_len (L := cur.toList) (vs := D) (o := (i + m) * 10) (by omega)
  have hrow1 : W1.heap[g]? = some (.cells (splice cur.toList ((i + m) * 10) D).toArray 30 (0, 0)) := by
    rw [hW1, hrw1]
    exact setRow_heap _ _ _ _ _ _ (show w.drew.heap[g]? = some (.cells cur 30 (0, 0)) from hg)
  have hfar1 : ∀ j, j ≠ g → W1.heap[j]? = w.heap[j]? := fun j hj => by
    rw [hW1, hrw1]
    exact setRow_other _ _ _ _ hj
  have hbel1 : Below base w W1 := by
    rw [hW1, hrw1]
    exact below_setRow (Below.refl base w).drew hbg _
  have hcp2 : ∀ (W : World), (∀ x, W.cell? x = W1.cell? x) → (∀ x, W.frozen? x = W1.frozen? x) → ∀ ty dc, (Builtin.copy_ #[23, 23] ty #[.slice (some ⟨g, i * 10, none⟩) (n + m - i) dc, .slice (some ⟨vb, 0, none⟩) m m]).run Tryz.prog W = .ok (goInt m) (W.setCells g (i * 10) vs) := fun W hWc hWf ty dc =>
    run_copyS W _ _ ty 30 10 g (i * 10) (n + m - i) dc ⟨vb, 0, none⟩ m m m vs Tryz.underlying23 hsz (by simp only [Nat.min_def]; split <;> omega) hvl
      (fun j x hj => by
        rw [Addr.add_lit, Nat.zero_add, hWc, World.cell?_of_block (a := ⟨vb, j, none⟩) (hfar1 vb hvg)]
        exact hvc j x hj)
      (fun j hj => by rw [hWc, cell_of_row _ g _ _ 30 (0, 0) hrow1, List.getElem?_toArray, List.getElem?_eq_getElem (by omega)]; rfl) (fun j _ => by rw [hWf]; simp [World.frozen?, hrow1]) huo
  rw [← hW1] at hcp1
  have q1 : ¬ ((m : Int) = 0) := by omega
  have q2 : ¬ ((i : Int) = (n : Int)) := by omega
  have q3 : IntKind.i64.wrap ((i : Int) + (m : Int)) = (i : Int) + (m : Int) := by rw [IntKind.wrap_i64]; unfold maxLen at hcm; omega
  have q4 : (0 : Int) ≤ (i : Int) + (m : Int) := by omega
  have q5 : i ≤ n := by omega
  have q6 : ((i : Int) + (m : Int)).toNat = i + m := by omega
  have q7 : ¬ (cap = i + m) := by omega
  have q8 : (i : Int) ≤ (n : Int) + (m : Int) := by omega
  have q9 : ¬ (cap = i) := by omega
  have q10 : n + m ≤ cap := by omega
  have q11 : (cap : Int) ≤ 9223372036854775807 := by unfold maxLen at hcm; omega
  have HFAR := Lib.hid hfar1
  have HC10 := Lib.hid hc10
  have HCL := Lib.hid hcl
  have HBEL := Lib.hid hbel1
  have HFS := Lib.hid hfs
  have HTK := Lib.hid htk
  have HN := Lib.hid hn
  have HM := Lib.hid hm
  have HD := Lib.hid hD
  have HVS := Lib.hid hvs
  have HR1 := Lib.hid hrow1
  have HU := Lib.hid hu
  have HVL := Lib.hid hvl
  have HDL := Lib.hid hdl
  have HSL := Lib.hid hsl
  have HRL := Lib.hid hrl
  have HUO := Lib.hid huo
  have HHG := Lib.hid hg
  have mixed : Tryz.prog.follows .mixedOrders = true := by kernel_rfl
  clear hc10 hcl hW1 hrow1 hfar1 hbel1 hfs htk hn hm hD hvs hu hvl hdl hsl hrl hcell hsome hfz hone hvc hsa hsb hrw1 hD1 huo hg hvb hz2 hcm hroom
  go_enter Tryz.func102, Tryz.ntmps102
  go_wp2_with (simp only [hov])
  go_region_law_o (refine step_copy_known rfl _ _ 23 23 rfl (by simp [Act.eval, Act.put]) (by simp [Act.eval, Act.put]) (hcp1 _ _ _) ?_)
  go_wp2_with (at_builtin; refine wpList_copy_known rfl _ _ 23 23 rfl rfl rfl (hcp2 _ (fun _ => rfl) (fun _ => rfl) _ _) ?_)
  go_ret
  have hcl := HCL.out
  have hn := HN.out
  have hm := HM.out
  have hvl := HVL.out
  have hdl := HDL.out
  have hsl := HSL.out
  have hrw := setCells_row (w := W1) (vs := vs) (o := i * 10) HR1.out (by rw [List.size_toArray]; omega) HUO.out
  rw [hrw]
  have hg2 := setRow_heap W1 g _ (splice (splice cur.toList ((i + m) * 10) D) (i * 10) vs).toArray 30 (0, 0) HR1.out
  have hfar2 : ∀ j, j ≠ g → (W1.setRow g (splice (splice cur.toList ((i + m) * 10) D) (i * 10) vs).toArray).heap[j]? = w.heap[j]? := fun j hj => (setRow_other _ _ _ _ hj).trans (HFAR.out j hj)
  have hbel2 := below_setRow HBEL.out hbg (splice (splice cur.toList ((i + m) * 10) D) (i * 10) vs).toArray
  have htk2 : (splice (splice cur.toList ((i + m) * 10) D) (i * 10) vs).toArray.toList.take ((n + m) * 10) = (css.take i ++ cs :: css.drop i).flatten := by
    rw [take_splice (by omega) (by omega), css_mid i cs HC10.out]
    have h1 := take_splice1 (L := cur.toList) (vs := D) (o := (i + m) * 10) (by omega)
    rw [show (i + m) * 10 + D.length = (n + m) * 10 by omega] at h1
    rw [h1, show (i + m) * 10 = i * 10 + m * 10 by omega, List.take_add, splice_two (by rw [List.length_take]; omega) (by rw [List.length_take, List.length_drop]; omega) rfl, HVS.out, HD.out]
    congr 2
    rw [← HTK.out, List.take_take, Nat.min_eq_left (by omega)]
  have hsl2 := splice_len (L := splice cur.toList ((i + m) * 10) D) (vs := vs) (o := i * 10) (by omega)
  refine ⟨_, rfl, ON.mk_ hbg hg2 (by rw [List.length_append, List.length_cons, List.length_take, List.length_drop]; omega) q10 (by unfold maxLen; omega) (by rw [List.size_toArray]; omega) htk2 ((HFS.out.mid HU.out (by omega)).grown (row := some g) ⟨hbel2.os, hbel2.tape, hbel2.output, hbel2.size, fun j hj hne => hfar2 j (fun e => hne (by rw [e]))⟩ (fun g' e => by cases e; exact ⟨_, HHG.out⟩)), hbel2⟩
set_option maxRecDepth 100000 in
set_option maxHeartbeats 4000000 in
theorem insert_grow (base i g n cap vb : Nat) (cur : Array Value) (ys : List Sub) (css : List (List Value)) (y : Sub) (cs : List Value) (w : World)
    (hbg : base ≤ g) (hg : w.heap[g]? = some (.cells cur 30 (0, 0))) (hn : n = ys.length) (hnc : n ≤ cap) (hcm : cap ≤ maxLen) (htk : cur.toList.take (n * 10) = css.flatten) (hfs : CNs w ys css)
    (hi : i < n) (hroom : cap < n + 1) (hlim : n ≤ 977343669111) (hvb : w.heap[vb]? = some (.cells cs.toArray 30 (0, 0))) (hu : CN w y cs) :
    Calls Tryz.prog 102 #[.slice (some ⟨g, 0, none⟩) n cap, .int .i64 i, .slice (some ⟨vb, 0, none⟩) 1 1] w (GivesIns w base (ys.take i ++ y :: ys.drop i)) := by
  obtain ⟨m, hm⟩ : ∃ m, m = 1 := ⟨_, rfl⟩
  rw [show (Value.slice (some ⟨vb, 0, none⟩) 1 1) = .slice (some ⟨vb, 0, none⟩) m m by rw [hm]]
  have hcell : ∀ j, j < n * 10 → w.cell? ⟨g, j, none⟩ = css.flatten[j]? := fun j hj => by
    rw [cell_of_row _ g j cur 30 (0, 0) hg, ← htk, List.getElem?_take, if_pos hj, Array.getElem?_toList]
  have hone := hfs.one
  have hc10 := hfs.len
  have hcl := hfs.1
  obtain ⟨i0, hi0, hz0, hz1, hz2⟩ := info_parts infoSub
  have hsz : (Tryz.prog.info? 30).map (·.size) = some 10 := by rw [hi0]; simp [hz1]
  have hrl := css_len hc10
  obtain ⟨D, hD⟩ : ∃ D, D = css.flatten.drop (i * 10) := ⟨_, rfl⟩
  have hdl : D.length = (n - i) * 10 := by rw [hD, List.length_drop, hrl, hcl, ← hn]; omega
  obtain ⟨hA, hAe⟩ : ∃ hA, hA = css.flatten.take (i * 10) := ⟨_, rfl⟩
  have hal : hA.length = i * 10 := by rw [hAe, List.length_take, hrl, hcl, ← hn]; omega
  obtain ⟨vs, hvs⟩ : ∃ vs : List Value, vs = cs := ⟨_, rfl⟩
  have hvl : vs.length = m * 10 := by rw [hvs, hm, cs_len hu.cs]
  have huo : ∀ x ∈ vs, x.oneCell' = true := by
    intro x hx
    rw [hvs] at hx
    exact cn_one hu x hx
  have hvc : ∀ j x, vs[j]? = some x → w.cell? ⟨vb, j, none⟩ = some x := fun j x hx => by
    rw [cell_of_row _ vb j _ 30 (0, 0) hvb, List.getElem?_toArray, ← hvs]
    exact hx
  have hgw : g < w.heap.size := (Array.getElem?_eq_some_iff.1 hg).1
  have hvw : vb < w.heap.size := (Array.getElem?_eq_some_iff.1 hvb).1
  have hold : (Builtin.firstCells i0.size i (.slice (some ⟨g, 0, none⟩) i cap)).run Tryz.prog w.drew = .ok hA.toArray w.drew := by
    rw [hz1]
    exact run_firstCells_some w.drew 10 i ⟨g, 0, none⟩ i cap hA hal (fun j x hj => by
      have hlt := (List.getElem?_eq_some_iff.1 hj).1
      rw [Addr.add_lit, Nat.zero_add]
      rw [hAe, List.getElem?_take, if_pos (by omega)] at hj
      exact (hcell j (by omega)).trans hj)
  have hkk : (n : Int) + (m : Int) - (i : Int) = ((n + m - i : Nat) : Int) := by omega
  have hik : i + (n + m - i) = n + m := by omega
  obtain ⟨G, hG⟩ : ∃ G, G = grownCap w (n + m) cap 30 := ⟨_, rfl⟩
  obtain ⟨Z, hZ⟩ : ∃ Z : Array Value, Z = #[.int .i64 0, .string ⟨#[]⟩, .string ⟨#[]⟩, .string ⟨#[]⟩, .int .i64 0, .int .i64 0, .int .i64 0, .slice none 0 0, .slice none 0 0, .string ⟨#[]⟩] := ⟨_, rfl⟩
  have hZs : Z.size = 10 := by rw [hZ]; rfl
  obtain ⟨ROW, hROW⟩ : ∃ ROW : Array Value, ROW = hA.toArray ++ Builtin.zeroCells Z (n + m - i) ++ Builtin.zeroCells Z (G - (n + m)) := ⟨_, rfl⟩
  have hGn : n + m ≤ G := by rw [hG]; exact grownCap_ge w _ _ _
  have hrsz : ROW.size = G * 10 := by
    rw [hROW, Array.size_append, Array.size_append, size_zeroCells, size_zeroCells, hZs, List.size_toArray, hal]
    omega
  have hG63 : G ≤ 9223372036854775807 := by
    have := grownCap_le_maxLen w (n + m) cap 30 (by unfold maxLen; omega)
    rw [← hG] at this
    unfold maxLen at this
    omega
  have hrz : ∀ ty, (Builtin.append_ #[23, 3] ty #[.slice (some ⟨g, 0, none⟩) i cap, .int .i64 ((n : Int) + (m : Int) - (i : Int))]).run Tryz.prog w =
      .ok (.slice (some ⟨w.heap.size, 0, none⟩) (n + m) G) (w.drew.alloc (.cells ROW 30)) := fun ty => by
    have h := Lib.run_append_grow_zeros w 23 3 ty 30 i0 _ .i64 .i64 Tryz.underlying23 Tryz.underlying3 hi0 hz0 (some ⟨g, 0, none⟩) i cap hA hold (n + m - i) (by omega) (by omega) (by omega) (by omega) (by rw [hz2]; omega) (by rw [hz2, hik]; exact growslice_fits (by omega) (by omega))
    rw [hik, ← hG] at h
    rw [hkk, hROW, hZ]
    exact h
  obtain ⟨W1, hW1⟩ : ∃ W1, W1 = w.drew.alloc (.cells ROW 30) := ⟨_, rfl⟩
  rw [← hW1] at hrz
  have hrowW1 : W1.heap[w.heap.size]? = some (.cells ROW 30 (0, 0)) := by rw [hW1]; exact heap_alloc_new w.drew _
  have hfarW1 : ∀ j, j < w.heap.size → W1.heap[j]? = w.heap[j]? := fun j hj => by rw [hW1]; exact Below.heap_alloc w.drew _ j hj
  have hcellW1 : ∀ b j, b < w.heap.size → W1.cell? ⟨b, j, none⟩ = w.cell? ⟨b, j, none⟩ := fun b j hb => World.cell?_of_block (a := ⟨b, j, none⟩) (hfarW1 b hb)
  have hvs2 := setCells_row (w := W1) (vs := vs) (cur := ROW) (o := i * 10) (t := 30) hrowW1 (by omega) huo
  have hrl0 := Array.length_toList (xs := ROW)
  have hslA := splice_len (L := ROW.toList) (vs := vs) (o := i * 10) (by omega)
  have hrowA : (W1.setCells w.heap.size (i * 10) vs).heap[w.heap.size]? = some (.cells (splice ROW.toList (i * 10) vs).toArray 30 (0, 0)) := by
    rw [hvs2]
    exact setRow_heap _ _ _ _ _ _ hrowW1
  have hfarA : ∀ j, j < w.heap.size → (W1.setCells w.heap.size (i * 10) vs).heap[j]? = w.heap[j]? := fun j hj => by
    rw [hvs2]
    exact (setRow_other _ _ _ _ (by omega)).trans (hfarW1 j hj)
  have hcpA : ∀ (W : World), (∀ x, W.cell? x = W1.cell? x) → (∀ x, W.frozen? x = W1.frozen? x) → ∀ ty dc, (Builtin.copy_ #[23, 23] ty #[.slice (some ⟨w.heap.size, i * 10, none⟩) (n + m - i) dc, .slice (some ⟨vb, 0, none⟩) m m]).run Tryz.prog W = .ok (goInt m) (W.setCells w.heap.size (i * 10) vs) := fun W hWc hWf ty dc =>
    run_copyS W _ _ ty 30 10 w.heap.size (i * 10) (n + m - i) dc ⟨vb, 0, none⟩ m m m vs Tryz.underlying23 hsz (by simp only [Nat.min_def]; split <;> omega) hvl
      (fun j x hj => by rw [Addr.add_lit, Nat.zero_add, hWc, hcellW1 vb j hvw]; exact hvc j x hj)
      (fun j hj => by rw [hWc, cell_of_row _ _ _ _ 30 (0, 0) hrowW1, Array.getElem?_eq_getElem (by omega)]; rfl) (fun j _ => by rw [hWf]; simp [World.frozen?, hrowW1]) huo
  have hD1 : ∀ x ∈ D, x.oneCell' = true := fun x hx => hone x (by rw [hD] at hx; exact List.mem_of_mem_drop hx)
  have hcpB : ∀ (W : World), (∀ x, W.cell? x = (W1.setCells w.heap.size (i * 10) vs).cell? x) → (∀ x, W.frozen? x = (W1.setCells w.heap.size (i * 10) vs).frozen? x) → ∀ ty dc sc, (Builtin.copy_ #[23, 23] ty #[.slice (some ⟨w.heap.size, (i + m) * 10, none⟩) (n + m - (i + m)) dc, .slice (some ⟨g, i * 10, none⟩) (n - i) sc]).run Tryz.prog W = .ok (goInt ((n - i : Nat) : Int)) (W.setCells w.heap.size ((i + m) * 10) D) := fun W hWc hWf ty dc sc =>
    run_copyS W _ _ ty 30 10 w.heap.size ((i + m) * 10) (n + m - (i + m)) dc ⟨g, i * 10, none⟩ (n - i) sc (n - i) D Tryz.underlying23 hsz (by simp only [Nat.min_def]; split <;> omega) hdl
      (fun j x hj => by
        have := (List.getElem?_eq_some_iff.1 hj).1
        rw [Addr.add_lit, hWc, World.cell?_of_block (a := ⟨g, i * 10 + j, none⟩) (hfarA g hgw)]
        exact (hcell (i * 10 + j) (by omega)).trans (by rw [hD, List.getElem?_drop] at hj; exact hj))
      (fun j hj => by rw [hWc, cell_of_row _ _ _ _ 30 (0, 0) hrowA, List.getElem?_toArray, List.getElem?_eq_getElem (by omega)]; rfl) (fun j _ => by rw [hWf]; simp [World.frozen?, hrowA]) hD1
  have hFB := setCells_row (w := (W1.setCells w.heap.size (i * 10) vs).drew) (vs := D) (o := (i + m) * 10) (t := 30) hrowA (by rw [List.size_toArray]; omega) hD1
  have HC10 := Lib.hid hc10
  have hend : GivesIns w base (ys.take i ++ y :: ys.drop i) (.returned (.slice (some ⟨w.heap.size, 0, none⟩) (n + m) G)) ((W1.setCells w.heap.size (i * 10) vs).drew.setCells w.heap.size ((i + m) * 10) D) := by
    rw [hFB]
    have hg2 := setRow_heap (W1.setCells w.heap.size (i * 10) vs).drew w.heap.size _ (splice (splice ROW.toList (i * 10) vs) ((i + m) * 10) D).toArray 30 (0, 0) hrowA
    have hsl2 := splice_len (L := splice ROW.toList (i * 10) vs) (vs := D) (o := (i + m) * 10) (by omega)
    have hZ1 : (Builtin.zeroCells Z (n + m - i)).toList.length = (n + m - i) * 10 := by rw [zero_len, hZs]
    have htk2 : (splice (splice ROW.toList (i * 10) vs) ((i + m) * 10) D).toArray.toList.take ((n + m) * 10) = (css.take i ++ cs :: css.drop i).flatten := by
      rw [take_splice (by omega) (by omega), take_splice (by omega) (by omega), css_mid i cs HC10.out]
      have h1 : ROW.toList.take ((n + m) * 10) = hA ++ (Builtin.zeroCells Z (n + m - i)).toList.take (m * 10) ++ (Builtin.zeroCells Z (n + m - i)).toList.drop (m * 10) := by
        rw [hROW, Array.toList_append, Array.toList_append, List.toList_toArray, List.take_left' (by rw [List.length_append, hal, hZ1]; omega), List.append_assoc hA, List.take_append_drop]
      rw [h1, splice_two hal (by rw [List.length_take, hZ1]; omega) (by rw [List.length_take, hZ1]), ← List.append_nil (hA ++ vs ++ _), splice_two (by rw [List.length_append]; omega) (by rw [List.length_drop, hZ1]; omega) rfl, List.append_nil, hAe, hD, hvs]
    have hbel : Below w.heap.size w ((W1.setCells w.heap.size (i * 10) vs).drew.setRow w.heap.size (splice (splice ROW.toList (i * 10) vs) ((i + m) * 10) D).toArray) := by
      refine below_setRow (Below.drew ?_) (Nat.le_refl _) _
      rw [hvs2]
      refine below_setRow ?_ (Nat.le_refl _) _
      rw [hW1]
      exact (Below.refl _ _).drew.alloc (Nat.le_refl _) _
    refine ⟨_, rfl, ON.mk_ (by omega) hg2 (by rw [List.length_append, List.length_cons, List.length_take, List.length_drop]; omega) hGn (by unfold maxLen; omega) (by rw [List.size_toArray]; omega) htk2 ((hfs.mid hu (by omega)).below hbel), hbel.mono (by omega)⟩
  have hE1 : ∀ x, ((w.alloc (.cells ROW 30)).drew).cell? x = W1.cell? x := fun x => by rw [hW1]; rfl
  have hE2 : ∀ x, ((w.alloc (.cells ROW 30)).drew).frozen? x = W1.frozen? x := fun x => by rw [hW1]; rfl
  have hF1 : ∀ x, ((W1.setCells w.heap.size (i * 10) vs).drew).cell? x = (W1.setCells w.heap.size (i * 10) vs).cell? x := fun x => rfl
  have hF2 : ∀ x, ((W1.setCells w.heap.size (i * 10) vs).drew).frozen? x = (W1.setCells w.heap.size (i * 10) vs).frozen? x := fun x => rfl
  have HEND := Lib.hid hend
  have q1 : ¬ ((m : Int) = 0) := by omega
  have q2 : ¬ ((i : Int) = (n : Int)) := by omega
  have q2' : (cap : Int) < (n : Int) + (m : Int) := by omega
  have q3 : IntKind.i64.wrap ((i : Int) + (m : Int)) = (i : Int) + (m : Int) := by rw [IntKind.wrap_i64]; omega
  have q4 : (0 : Int) ≤ (i : Int) + (m : Int) := by omega
  have q5 : i ≤ n := by omega
  have q6 : ((i : Int) + (m : Int)).toNat = i + m := by omega
  have q7 : ¬ (G = i) := by omega
  have q8 : ¬ (G = i + m) := by omega
  have q9 : ¬ (cap = i) := by omega
  have q10 : (i : Int) ≤ (n : Int) := by omega
  have q11 : (cap : Int) ≤ 9223372036854775807 := by unfold maxLen at hcm; omega
  have mixed : Tryz.prog.follows .mixedOrders = true := by kernel_rfl
  clear hc10 hcl hW1 hend hFB hrowA hrowW1 hfarA hfarW1 hcellW1 hvs2 hrl0 hslA hD1 hROW hrsz hZ hZs hold hkk hik hG hgw hvw hvc huo hvl hvs hal hAe hdl hD hrl hone hcell hfs htk hn hg hvb hu hm hz2 hlim hroom
  go_enter Tryz.func102, Tryz.ntmps102
  go_wp2_with (first
    | (at_builtin; refine wpList_append_known rfl _ _ _ _ rfl rfl rfl (hrz _) ?_)
    | (at_builtin; refine wpList_copy_known rfl _ _ 23 23 rfl rfl rfl (hcpA _ (fun _ => rfl) (fun _ => rfl) _ _) ?_)
    | (at_builtin; refine wpList_copy_known rfl _ _ 23 23 rfl rfl rfl (hcpA _ hE1 hE2 _ _) ?_)
    | (at_builtin; refine wpList_copy_known rfl _ _ 23 23 rfl rfl rfl (hcpB _ (fun _ => rfl) (fun _ => rfl) _ _ _) ?_))
  go_region_law_o (refine step_copy_known rfl _ _ 23 23 rfl (by simp [Act.eval, Act.put]) (by simp [Act.eval, Act.put]) (hcpB _ hF1 hF2 _ _ _) ?_)
  go_wp2
  go_ret
  exact HEND.out
set_option maxRecDepth 100000 in
set_option maxHeartbeats 4000000 in
theorem insert_end (base n vb : Nat) (v : Value) (ys : List Sub) (css : List (List Value)) (y : Sub) (cs : List Value) (w : World) (hn : n = ys.length)
    (hown : w.ownsRow base 30 10 v n css.flatten) (hfs : CNs w ys css) (hlim : n ≤ 977343669111) (hvb : w.heap[vb]? = some (.cells cs.toArray 30 (0, 0))) (hu : CN w y cs) (hbase : base ≤ w.heap.size) :
    Calls Tryz.prog 102 #[v, .int .i64 n, .slice (some ⟨vb, 0, none⟩) 1 1] w (GivesIns w base (ys ++ [y])) := by
  have hcl := cs_len hu.cs
  have hsrc : Src Tryz.prog 10 23 (.slice (some ⟨vb, 0, none⟩) 1 1) 1 cs w := Src.ofSlice w Tryz.underlying23 ⟨vb, 0, none⟩ 1 1 cs (by rw [hcl]) (fun j x hj => by
      rw [Addr.add_lit, Nat.zero_add, cell_of_row _ vb j _ 30 (0, 0) hvb, List.getElem?_toArray]; exact hj) (cn_one hu)
  obtain ⟨A, c, rfl, hnc⟩ := own_shape hown
  have q11 : (c : Int) ≤ 9223372036854775807 := by
    rcases hown.2 with ⟨he, _⟩ | ⟨g, cap, cur, he, _, _, _, hcm, _⟩
    · injection he with _ _ e3; omega
    · injection he with _ _ e3; unfold maxLen at hcm; omega
  have HO := Lib.hid hown
  have HS := Lib.hid hsrc
  have HF := Lib.hid hfs
  have HU := Lib.hid hu
  have HN := Lib.hid hn
  clear hown hsrc hfs hu hvb hn hcl
  go_enter Tryz.func102, Tryz.ntmps102
  go_wp2_with (at_builtin; refine wpList_own rfl (.tmp 23) (.tmp 24) 23 23 rfl base 30 _ 10 144 Tryz.underlying23 infoSub rfl rfl HO.out rfl HS.out (Below.refl base w) (Nat.le_refl _) (by unfold maxLen; omega) (by omega) hbase ?_; intro v5 w5 hown5 hbel5 hg5; have HR := Lib.hid (show ON base w5 v5 (ys ++ [y]) from ON.push (by rw [← HN.out]; exact HO.out) HF.out.1 HF.out.2 HU.out (by rw [← HN.out]; exact hown5) hg5); have HB5 := Lib.hid hbel5; clear hown5 hbel5 hg5)
  all_goals
    go_ret
    exact ⟨_, rfl, HR.out, HB5.out⟩
theorem insert_any (base at_ vb : Nat) (v : Value) (ys : List Sub) (y : Sub) (cs : List Value) (w : World) (ho : ON base w v ys) (hat : at_ ≤ ys.length) (hlim : ys.length ≤ 977343669111)
    (hvb : w.heap[vb]? = some (.cells cs.toArray 30 (0, 0))) (hvg : ∀ g, v.ownBlock = some g → vb ≠ g) (hu : CN w y cs) (hbase : base ≤ w.heap.size) :
    Calls Tryz.prog 102 #[v, .int .i64 at_, .slice (some ⟨vb, 0, none⟩) 1 1] w (GivesIns w base (ys.take at_ ++ y :: ys.drop at_)) := by
  obtain ⟨css, hown, hcl, hcc⟩ := ho
  rcases Nat.lt_or_ge at_ ys.length with hlt | hge
  · have hown0 := hown
    rcases hown.2 with ⟨_, h0⟩ | ⟨g, cap, cur, rfl, hbg, hg, hnc, hcm, hcs, htk⟩
    · omega
    · rcases Nat.lt_or_ge cap (ys.length + 1) with hr | hr
      · exact insert_grow base at_ g ys.length cap vb cur ys css y cs w hbg hg rfl hnc hcm htk ⟨hcl, hcc⟩ hlt hr hlim hvb hu
      · exact insert_shift base at_ g ys.length cap vb cur ys css y cs w hbg hg rfl hcm hcs htk ⟨hcl, hcc⟩ hlt hr hvb (hvg g rfl) hu
  · obtain rfl : at_ = ys.length := by omega
    have h := insert_end base ys.length vb v ys css y cs w rfl hown ⟨hcl, hcc⟩ hlim hvb hu hbase
    rw [List.take_length, List.drop_length]
    exact h
end Go.Proofs.YtodckdkbheapfaaGreat
