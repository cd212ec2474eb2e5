/-
  The contract of slices.Delete of one row out of rows of the call's own.
-/
import Derived.Test.YtomkbgghljcbfaaGHalve
import Derived.Test.YtomkbgghljcbfaaGPg
import Derived.Deep.RegionLaw
import Derived.Shelf.RegionOpenPlain
import Derived.Lib.Walk
import Derived.Lib.Overlaps
import Derived.Laws.Externs
set_option linter.unusedVariables false

namespace Go.Proofs.Ytomkbgghljcbfaa
open Go.RowKit Go.Rst Go.Pg Go.Crc Go.Lib

set_option maxRecDepth 100000 in
set_option maxHeartbeats 4000000 in
theorem delete_any (base at_ : Nat) (v : Value) (rs : List Rw) (w : World) (ho : OR 5 53 w base v rs) (hat : at_ < rs.length) :
    Calls Try.prog 35 #[v, .int .i64 at_, .int .i64 ((at_ : Int) + 1)] w fun e w' => ∃ v', e = .returned v' ∧ OR 5 53 w' base v' (rs.take at_ ++ rs.drop (at_ + 1)) ∧ Below base w w' := by
  obtain ⟨us, rfl, hown, hfs⟩ := ho
  rw [List.length_map] at hat
  have hown0 := hown
  rcases hown.2 with ⟨_, h0⟩ | ⟨g, cap, cur, rfl, hbg, hg, hnc, hcm, hcs, htk⟩
  · omega
  have hcell : ∀ i, i < us.length * 2 → w.cell? ⟨g, i, none⟩ = (rowCells us)[i]? := fun i hi => by
    rw [cell_of_row _ g i cur 53 (0, 0) hg, ← htk, List.getElem?_take, if_pos hi, Array.getElem?_toList]
  have hsome : ∀ i, i < cap * 2 → (w.cell? ⟨g, i, none⟩).isSome = true := fun i hi => by
    rw [cell_of_row _ g i cur 53 (0, 0) hg, Array.getElem?_eq_getElem (by omega)]; rfl
  have hfz : ∀ i, w.frozen? ⟨g, i, none⟩ = false := fun i => by simp [World.frozen?, hg]
  obtain ⟨i0, hi0, hz0, hz1, hz2⟩ := info_parts info53
  obtain ⟨n, hn⟩ : ∃ n, n = us.length := ⟨_, rfl⟩
  obtain ⟨j, hj⟩ : ∃ j, j = at_ + 1 := ⟨_, rfl⟩
  have hji : (at_ : Int) + 1 = (j : Int) := by omega
  obtain ⟨news, hnews⟩ : ∃ news, news = (rowCells us).drop (j * 2) := ⟨_, rfl⟩
  have hrl := rowCells_length us
  have hlen : news.length = (n - j) * 2 := by rw [hnews, List.length_drop, hrl, ← hn]; omega
  have hone := rows_one hfs
  obtain ⟨A, hA, hsrc⟩ : ∃ A : Addr, (if cap = j then (some (⟨g, 0, none⟩ : Addr)) else some ⟨g, j * 2, none⟩) = some A ∧ Hid (∀ t u, news[t]? = some u → w.drew.cell? (A.add t) = some u) := by
    by_cases h : cap = j
    · refine ⟨⟨g, 0, none⟩, by simp [h], Lib.hid fun t u hu => ?_⟩
      have h0 : news.length = 0 := by rw [hlen]; omega
      rw [List.length_eq_zero_iff.1 h0] at hu
      simp at hu
    · refine ⟨⟨g, j * 2, none⟩, by simp [h], Lib.hid fun t u hu => ?_⟩
      have ht : t < (n - j) * 2 := by
        have := (List.getElem?_eq_some_iff.1 hu).1
        rwa [hlen] at this
      rw [hnews, List.getElem?_drop] at hu
      rw [Addr.add_lit]
      exact (hcell (j * 2 + t) (by omega)).trans hu
  have s1 : Hid (news.length = (n - j) * 2) := Lib.hid hlen
  have s2 : Hid (∀ u ∈ news, u.oneCell' = true) := Lib.hid (fun u hu => hone u (by rw [hnews] at hu; exact List.mem_of_mem_drop hu))
  have s3 : Hid (∀ t, t < news.length → (w.drew.cell? ⟨g, 0 + at_ * 2 + t, none⟩).isSome = true ∧ w.drew.frozen? ⟨g, 0 + at_ * 2 + t, none⟩ = false) := Lib.hid (by
    intro t ht
    rw [hlen] at ht
    exact ⟨hsome _ (by omega), hfz _⟩)
  obtain ⟨W1, hW1⟩ : ∃ W1, W1 = w.drew.setCells g (0 + at_ * 2) news := ⟨_, rfl⟩
  have hrow1 : W1.heap[g]? = some (.cells (splice cur.toList (0 + at_ * 2) news).toArray 53 (0, 0)) := by
    rw [hW1, setCells_row (w := w.drew) (vs := news) (cur := cur) (o := 0 + at_ * 2) hg (by rw [hlen]; omega) s2.out]
    exact setRow_heap _ _ _ _ _ _ (show w.drew.heap[g]? = some (.cells cur 53 (0, 0)) from hg)
  have hsl : (splice cur.toList (0 + at_ * 2) news).length = cap * 2 := by
    have hcl0 := Array.length_toList (xs := cur)
    rw [splice_len (L := cur.toList) (vs := news) (o := 0 + at_ * 2) (by omega)]
    omega
  have hfar1 : ∀ k, k ≠ g → W1.heap[k]? = w.heap[k]? := fun k hk => by
    rw [hW1, setCells_row (w := w.drew) (vs := news) (cur := cur) (o := 0 + at_ * 2) hg (by rw [hlen]; omega) s2.out]
    exact setRow_other _ _ _ _ hk
  have hsz1 : W1.heap.size = w.heap.size := by
    rw [hW1, setCells_row (w := w.drew) (vs := news) (cur := cur) (o := 0 + at_ * 2) hg (by rw [hlen]; omega) s2.out]
    simp [World.setRow]
  have hbel1 : Below base w W1 := by
    rw [hW1, setCells_row (w := w.drew) (vs := news) (cur := cur) (o := 0 + at_ * 2) hg (by rw [hlen]; omega) s2.out]
    exact below_setRow (Below.refl base w).drew hbg _
  have hcl : ∀ ty, (Builtin.clear_ #[34] ty #[.slice (some ⟨g, (n - 1) * 2, none⟩) 1 (cap - (n - 1))]).run Try.prog W1 = .ok (.tuple #[]) (W1.setCells g ((n - 1) * 2) (Builtin.zeroCells #[.string ⟨#[]⟩, .slice none 0 0] 1).toList) := fun ty =>
    run_clearS W1 _ 53 ty (.agg #[.string ⟨#[]⟩, .slice none 0 0]) Try.underlying34 (zero_row i0 hi0 hz0) (by simp [Value.cells, Value.oneCell']) g ((n - 1) * 2) 1 _ (by omega)
      (fun t ht => by simp only [Value.cells, List.size_toArray, List.length_cons, List.length_nil] at ht; rw [cell_of_row _ g _ _ 53 (0, 0) hrow1, List.getElem?_toArray, List.getElem?_eq_getElem (by omega)]; rfl)
      (fun t _ => by simp [World.frozen?, hrow1])
  have HW := Lib.hid hW1
  have HR1 := Lib.hid hrow1
  have HFAR := Lib.hid hfar1
  have HBEL := Lib.hid hbel1
  have HSZ := Lib.hid hsz1
  have HFS := Lib.hid hfs
  have HTK := Lib.hid htk
  have HNW := Lib.hid hnews
  have q1 : at_ ≤ cap := by omega
  have q2 : j ≤ cap := by omega
  have q3 : j ≤ n := by omega
  have q4 : at_ < n := by omega
  have q5 : ((at_ : Int) == (j : Int)) = false := by rw [beq_eq_false_iff_ne]; omega
  have q6 : ¬ (at_ : Int) = (j : Int) := by omega
  have q7 : at_ + (n - j) = n - 1 := by omega
  have q8 : ¬ cap = n - 1 := by omega
  have q9 : n - (n - 1) = 1 := by omega
  have q10 : (cap : Int) ≤ 9223372036854775807 := by unfold maxLen at hcm; omega
  have q11 : n ≤ cap := by omega
  have q12 : n - 1 ≤ n := by omega
  rw [hji]
  rw [← hn]
  have HN := Lib.hid hn
  have HJ := Lib.hid hj
  have q13 : ¬ n = at_ := by omega
  have q14 : ¬ cap = at_ := by omega
  have q15 : at_ ≤ j := by omega
  clear hW1 hrow1 hfar1 hbel1 hsz1 hnews hn hj hji hown hown0 hfs htk hsome hcell hfz hlen hrl hat hone hnc hcm
  have mixed : Try.prog.follows .mixedOrders = true := by kernel_rfl
  go_enter Try.func35, Try.ntmps35
  go_wp2_with fail
  go_region_law_o (refine step_append_room rfl (.tmp 22) (.tmp 25) 34 rfl 53 i0 2 Try.underlying34 hi0 hz1 g 0 at_ cap (by simp [Act.eval, Act.put]) A (n - j) (cap - j) news (by simp [Act.eval, Act.put]) s1.out hsrc.out s2.out (by omega) s3.out ?_; rw [← HW.out])
  go_wp2
  go_ret
  have hz : (Builtin.zeroCells #[Value.string ⟨#[]⟩, .slice none 0 0] 1).toList.length = 2 := zero_len _ _
  have hcl0 := Array.length_toList (xs := cur)
  have hj := HJ.out
  have hrw := setCells_row (w := W1) (vs := (Builtin.zeroCells #[Value.string ⟨#[]⟩, .slice none 0 0] 1).toList) (o := (n - 1) * 2) HR1.out (by rw [hz, List.size_toArray]; omega) (zero_one (by simp [Value.oneCell']))
  rw [hrw]
  have hg2 := setRow_heap W1 g _ (splice (splice cur.toList (0 + at_ * 2) news).toArray.toList ((n - 1) * 2) (Builtin.zeroCells #[Value.string ⟨#[]⟩, .slice none 0 0] 1).toList).toArray 53 (0, 0) HR1.out
  have hfar2 : ∀ k, k ≠ g → (W1.setRow g (splice (splice cur.toList (0 + at_ * 2) news).toArray.toList ((n - 1) * 2) (Builtin.zeroCells #[Value.string ⟨#[]⟩, .slice none 0 0] 1).toList).toArray).heap[k]? = w.heap[k]? := fun k hk => (setRow_other _ _ _ _ hk).trans (HFAR.out k hk)
  have hbel2 := below_setRow HBEL.out hbg (splice (splice cur.toList (0 + at_ * 2) news).toArray.toList ((n - 1) * 2) (Builtin.zeroCells #[Value.string ⟨#[]⟩, .slice none 0 0] 1).toList).toArray
  have hm : (us.take at_ ++ us.drop (at_ + 1)).map (fun x => (x.1, x.2.1)) = (us.map (fun x => (x.1, x.2.1))).take at_ ++ (us.map (fun x => (x.1, x.2.1))).drop (at_ + 1) := by rw [List.map_append, List.map_take, List.map_drop]
  have hul : n - 1 = (us.take at_ ++ us.drop (at_ + 1)).length := by have := HN.out; rw [List.length_append, List.length_take, List.length_drop]; omega
  have htk2 : (splice (splice cur.toList (0 + at_ * 2) news).toArray.toList ((n - 1) * 2) (Builtin.zeroCells #[Value.string ⟨#[]⟩, .slice none 0 0] 1).toList).toArray.toList.take ((n - 1) * 2) = rowCells (us.take at_ ++ us.drop (at_ + 1)) := by
    have hs1 := s1.out
    have h1 : (splice cur.toList (0 + at_ * 2) news).take ((n - 1) * 2) = cur.toList.take (at_ * 2) ++ news := by
      have := take_splice1 (L := cur.toList) (vs := news) (o := 0 + at_ * 2) (by omega)
      rw [show 0 + at_ * 2 + news.length = (n - 1) * 2 by omega] at this
      rw [this, Nat.zero_add]
    have h2 : cur.toList.take (at_ * 2) = (rowCells us).take (at_ * 2) := by
      rw [← HTK.out, List.take_take, Nat.min_eq_left (by have := HN.out; omega)]
    simp only
    have h3 : (splice (splice cur.toList (0 + at_ * 2) news) ((n - 1) * 2) (Builtin.zeroCells #[Value.string ⟨#[]⟩, .slice none 0 0] 1).toList).take ((n - 1) * 2) = (splice cur.toList (0 + at_ * 2) news).take ((n - 1) * 2) := by
      exact take_splice0 (by omega)
    rw [h3, h1, h2, HNW.out, rowCells_take, rowCells_drop, ← rowCells_append, hj]
  rw [← hm]
  refine ⟨_, rfl, OR.mk_ hbg hg2 hul (by omega) (by unfold maxLen; omega) ?_ htk2 (fun x hx => fb_far hg hfar2 (HFS.out x ?_)), hbel2⟩
  · have hsl2 := splice_len (L := (splice cur.toList (0 + at_ * 2) news).toArray.toList) (vs := (Builtin.zeroCells #[Value.string ⟨#[]⟩, .slice none 0 0] 1).toList) (o := (n - 1) * 2) (by rw [hz]; simp only; omega)
    rw [List.size_toArray, hsl2]
    simp only
    exact hsl
  · rcases List.mem_append.1 hx with hx | hx
    · exact List.mem_of_mem_take hx
    · exact List.mem_of_mem_drop hx
end Go.Proofs.Ytomkbgghljcbfaa

/-
  The contract of slices.Insert of one row into rows of the call's own.
-/
namespace Go.Proofs.Ytomkbgghljcbfaa
open Go.RowKit Go.Rst Go.Pg Go.Crc Go.Lib

theorem rowCells_mid (us : List (ByteArray × List UInt8 × Value)) (i : Nat) (k : ByteArray) (l : List UInt8) (u : Value) : rowCells (us.take i ++ (k, l, u) :: us.drop i) = (rowCells us).take (i * 2) ++ [.string k, u] ++ (rowCells us).drop (i * 2) := by
  rw [rowCells_append, rowCells_take, rowCells_drop]
  simp [rowCells]
/-- What Insert hands back. -/
def GivesIns (w : World) (base : Nat) (r : List Rw) (e : Ending) (w' : World) : Prop := ∃ v', e = .returned v' ∧ OR 5 53 w' base v' r ∧ Below base w w'

set_option maxRecDepth 100000 in
set_option maxHeartbeats 4000000 in
theorem insert_shift (base i g n cap vb : Nat) (cur : Array Value) (us : List (ByteArray × List UInt8 × Value)) (k : ByteArray) (u : Value) (l : List UInt8) (w : World)
    (hbg : base ≤ g) (hg : w.heap[g]? = some (.cells cur 53 (0, 0))) (hn : n = us.length) (hcm : cap ≤ maxLen) (hcs : cur.size = cap * 2) (htk : cur.toList.take (n * 2) = rowCells us) (hfs : ∀ x ∈ us, FB 5 w base x.2.2 x.2.1)
    (hi : i < n) (hroom : n + 1 ≤ cap) (hvb : w.heap[vb]? = some (.cells #[.string k, u] 53 (0, 0))) (hvg : vb ≠ g) (hu : FB 5 w base u l) :
    Calls Try.prog 36 #[.slice (some ⟨g, 0, none⟩) n cap, .int .i64 i, .slice (some ⟨vb, 0, none⟩) 1 1] w (GivesIns w base ((us.take i ++ (k, l, u) :: us.drop i).map (fun x => (x.1, x.2.1)))) := by
  obtain ⟨m, hm⟩ : ∃ m, m = 1 := ⟨_, rfl⟩
  rw [show (Value.slice (some ⟨vb, 0, none⟩) 1 1) = .slice (some ⟨vb, 0, none⟩) m m by rw [hm]]
  have hcell : ∀ j, j < n * 2 → w.cell? ⟨g, j, none⟩ = (rowCells us)[j]? := fun j hj => by
    rw [cell_of_row _ g j cur 53 (0, 0) hg, ← htk, List.getElem?_take, if_pos hj, Array.getElem?_toList]
  have hsome : ∀ j, j < cap * 2 → (w.cell? ⟨g, j, none⟩).isSome = true := fun j hj => by
    rw [cell_of_row _ g j cur 53 (0, 0) hg, Array.getElem?_eq_getElem (by omega)]; rfl
  have hfz : ∀ j, w.frozen? ⟨g, j, none⟩ = false := fun j => by simp [World.frozen?, hg]
  have hone := rows_one hfs
  obtain ⟨i0, hi0, hz0, hz1, hz2⟩ := info_parts info53
  have hsz : (Try.prog.info? 53).map (·.size) = some 2 := by rw [hi0]; simp [hz1]
  have hrl := rowCells_length us
  obtain ⟨D, hD⟩ : ∃ D, D = (rowCells us).drop (i * 2) := ⟨_, rfl⟩
  have hdl : D.length = (n - i) * 2 := by rw [hD, List.length_drop, hrl, ← hn]; omega
  obtain ⟨vs, hvs⟩ : ∃ vs : List Value, vs = [.string k, u] := ⟨_, rfl⟩
  have hvl : vs.length = m * 2 := by rw [hvs, hm]; rfl
  have huo : ∀ x ∈ vs, x.oneCell' = true := by
    intro x hx
    rw [hvs] at hx
    simp only [List.mem_cons, List.not_mem_nil, or_false] at hx
    rcases hx with rfl | rfl
    · rfl
    · exact fb_one hu
  have hvc : ∀ j x, vs[j]? = some x → w.cell? ⟨vb, j, none⟩ = some x := fun j x hx => by
    rw [cell_of_row _ vb j _ 53 (0, 0) hvb, List.getElem?_toArray, ← hvs]
    exact hx
  have hsa : w.shape? vb = some (53, 2) := by simp [World.shape?, hvb]
  have hsb : w.shape? g = some (53, cap * 2) := by simp [World.shape?, hg, hcs]
  have hov : ∀ lb cb, (callFunc 57 #[.slice (some ⟨vb, 0, none⟩) m m, .slice (some ⟨g, (i + m) * 2, none⟩) lb cb]).run Try.prog w = .ok (.value (.bool false)) w := fun lb cb => by
    rw [run_callFunc_extern Try.func57 (by kernel_rfl) (by kernel_rfl) (by kernel_rfl) (e := Extern.SlicesOverlaps.overlaps #[34, 34] #[4]) (by kernel_rfl),
      Lib.run_overlaps_apart w 34 4 53 Try.underlying34 2 (fun w => by simp [sizeOf, typeInfo, hi0, hz1]) ⟨vb, 0, none⟩ ⟨g, (i + m) * 2, none⟩ m m lb cb hvg 53 53 2 (cap * 2) hsa hsb (by omega) (by simp [World.frozen?, hvb]) (by simp [World.frozen?, hvb])]
    rfl
  have hcp1 : ∀ ty dc sc, (Builtin.copy_ #[34, 34] ty #[.slice (some ⟨g, (i + m) * 2, none⟩) (n + m - (i + m)) dc, .slice (some ⟨g, i * 2, none⟩) (n + m - i) sc]).run Try.prog w.drew = .ok (goInt ((n - i : Nat) : Int)) (w.drew.setCells g ((i + m) * 2) D) := fun ty dc sc =>
    run_copyS w.drew _ _ ty 53 2 g ((i + m) * 2) (n + m - (i + m)) dc ⟨g, i * 2, none⟩ (n + m - i) sc (n - i) D Try.underlying34 hsz (by simp only [Nat.min_def]; split <;> omega) hdl
      (fun j x hj => by
        have := (List.getElem?_eq_some_iff.1 hj).1
        rw [Addr.add_lit]
        exact (hcell (i * 2 + j) (by omega)).trans (by rw [hD, List.getElem?_drop] at hj; exact hj))
      (fun j hj => hsome _ (by omega)) (fun j _ => hfz _) (fun x hx => hone x (by rw [hD] at hx; exact List.mem_of_mem_drop hx))
  obtain ⟨W1, hW1⟩ : ∃ W1, W1 = w.drew.setCells g ((i + m) * 2) D := ⟨_, rfl⟩
  have hD1 : ∀ x ∈ D, x.oneCell' = true := fun x hx => hone x (by rw [hD] at hx; exact List.mem_of_mem_drop hx)
  have hrw1 := setCells_row (w := w.drew) (vs := D) (cur := cur) (o := (i + m) * 2) (t := 53) hg (by rw [hdl]; omega) hD1
  have hcl0 := Array.length_toList (xs := cur)
  have hsl := splice_len (L := cur.toList) (vs := D) (o := (i + m) * 2) (by omega)
  have hrow1 : W1.heap[g]? = some (.cells (splice cur.toList ((i + m) * 2) D).toArray 53 (0, 0)) := by
    rw [hW1, hrw1]
    exact setRow_heap _ _ _ _ _ _ (show w.drew.heap[g]? = some (.cells cur 53 (0, 0)) from hg)
  have hfar1 : ∀ j, j ≠ g → W1.heap[j]? = w.heap[j]? := fun j hj => by
    rw [hW1, hrw1]
    exact setRow_other _ _ _ _ hj
  have hbel1 : Below base w W1 := by
    rw [hW1, hrw1]
    exact below_setRow (Below.refl base w).drew hbg _
  have hcp2 : ∀ (W : World), (∀ x, W.cell? x = W1.cell? x) → (∀ x, W.frozen? x = W1.frozen? x) → ∀ ty dc, (Builtin.copy_ #[34, 34] ty #[.slice (some ⟨g, i * 2, none⟩) (n + m - i) dc, .slice (some ⟨vb, 0, none⟩) m m]).run Try.prog W = .ok (goInt m) (W.setCells g (i * 2) vs) := fun W hWc hWf ty dc =>
    run_copyS W _ _ ty 53 2 g (i * 2) (n + m - i) dc ⟨vb, 0, none⟩ m m m vs Try.underlying34 hsz (by simp only [Nat.min_def]; split <;> omega) hvl
      (fun j x hj => by
        rw [Addr.add_lit, Nat.zero_add, hWc, World.cell?_of_block (a := ⟨vb, j, none⟩) (hfar1 vb hvg)]
        exact hvc j x hj)
      (fun j hj => by rw [hWc, cell_of_row _ g _ _ 53 (0, 0) hrow1, List.getElem?_toArray, List.getElem?_eq_getElem (by omega)]; rfl) (fun j _ => by rw [hWf]; simp [World.frozen?, hrow1]) huo
  rw [← hW1] at hcp1
  have q1 : ¬ ((m : Int) = 0) := by omega
  have q2 : ¬ ((i : Int) = (n : Int)) := by omega
  have q3 : IntKind.i64.wrap ((i : Int) + (m : Int)) = (i : Int) + (m : Int) := by rw [IntKind.wrap_i64]; unfold maxLen at hcm; omega
  have q4 : (0 : Int) ≤ (i : Int) + (m : Int) := by omega
  have q5 : i ≤ n := by omega
  have q6 : ((i : Int) + (m : Int)).toNat = i + m := by omega
  have q7 : ¬ (cap = i + m) := by omega
  have q8 : (i : Int) ≤ (n : Int) + (m : Int) := by omega
  have q9 : ¬ (cap = i) := by omega
  have q10 : n + m ≤ cap := by omega
  have q11 : (cap : Int) ≤ 9223372036854775807 := by unfold maxLen at hcm; omega
  have HFAR := Lib.hid hfar1
  have HBEL := Lib.hid hbel1
  have HFS := Lib.hid hfs
  have HTK := Lib.hid htk
  have HN := Lib.hid hn
  have HM := Lib.hid hm
  have HD := Lib.hid hD
  have HVS := Lib.hid hvs
  have HR1 := Lib.hid hrow1
  have HU := Lib.hid hu
  have HVL := Lib.hid hvl
  have HDL := Lib.hid hdl
  have HSL := Lib.hid hsl
  have HRL := Lib.hid hrl
  have HUO := Lib.hid huo
  have HHG := Lib.hid hg
  have mixed : Try.prog.follows .mixedOrders = true := by kernel_rfl
  clear hW1 hrow1 hfar1 hbel1 hfs htk hn hm hD hvs hu hvl hdl hsl hrl hcell hsome hfz hone hvc hsa hsb hrw1 hD1 huo hg hvb hz2 hcm hroom
  go_enter Try.func36, Try.ntmps36
  go_wp2_with (simp only [hov])
  go_region_law_o (refine step_copy_known rfl _ _ 34 34 rfl (by simp [Act.eval, Act.put]) (by simp [Act.eval, Act.put]) (hcp1 _ _ _) ?_)
  go_wp2_with (at_builtin; refine wpList_copy_known rfl _ _ 34 34 rfl rfl rfl (hcp2 _ (fun _ => rfl) (fun _ => rfl) _ _) ?_)
  go_ret
  have hn := HN.out
  have hm := HM.out
  have hvl := HVL.out
  have hdl := HDL.out
  have hsl := HSL.out
  have hrw := setCells_row (w := W1) (vs := vs) (o := i * 2) HR1.out (by rw [List.size_toArray]; omega) HUO.out
  rw [hrw]
  have hg2 := setRow_heap W1 g _ (splice (splice cur.toList ((i + m) * 2) D) (i * 2) vs).toArray 53 (0, 0) HR1.out
  have hfar2 : ∀ j, j ≠ g → (W1.setRow g (splice (splice cur.toList ((i + m) * 2) D) (i * 2) vs).toArray).heap[j]? = w.heap[j]? := fun j hj => (setRow_other _ _ _ _ hj).trans (HFAR.out j hj)
  have hbel2 := below_setRow HBEL.out hbg (splice (splice cur.toList ((i + m) * 2) D) (i * 2) vs).toArray
  have htk2 : (splice (splice cur.toList ((i + m) * 2) D) (i * 2) vs).toArray.toList.take ((n + m) * 2) = rowCells (us.take i ++ (k, l, u) :: us.drop i) := by
    rw [take_splice (by omega) (by omega), rowCells_mid]
    have h1 := take_splice1 (L := cur.toList) (vs := D) (o := (i + m) * 2) (by omega)
    rw [show (i + m) * 2 + D.length = (n + m) * 2 by omega] at h1
    rw [h1, show (i + m) * 2 = i * 2 + m * 2 by omega, List.take_add, splice_two (by rw [List.length_take]; omega) (by rw [List.length_take, List.length_drop]; omega) rfl, HVS.out, HD.out]
    congr 2
    rw [← HTK.out, List.take_take, Nat.min_eq_left (by omega)]
  have hsl2 := splice_len (L := splice cur.toList ((i + m) * 2) D) (vs := vs) (o := i * 2) (by omega)
  refine ⟨_, rfl, OR.mk_ hbg hg2 (by rw [List.length_append, List.length_cons, List.length_take, List.length_drop]; omega) q10 (by unfold maxLen; omega) (by rw [List.size_toArray]; omega) htk2 (fun x hx => fb_far HHG.out hfar2 ?_), hbel2⟩
  rcases List.mem_append.1 hx with hx | hx
  · exact HFS.out x (List.mem_of_mem_take hx)
  · rcases List.mem_cons.1 hx with rfl | hx
    · exact HU.out
    · exact HFS.out x (List.mem_of_mem_drop hx)

set_option maxRecDepth 100000 in
set_option maxHeartbeats 4000000 in
theorem insert_grow (base i g n cap vb : Nat) (cur : Array Value) (us : List (ByteArray × List UInt8 × Value)) (k : ByteArray) (u : Value) (l : List UInt8) (w : World)
    (hbg : base ≤ g) (hg : w.heap[g]? = some (.cells cur 53 (0, 0))) (hn : n = us.length) (hnc : n ≤ cap) (hcm : cap ≤ maxLen) (htk : cur.toList.take (n * 2) = rowCells us) (hfs : ∀ x ∈ us, FB 5 w base x.2.2 x.2.1)
    (hi : i < n) (hroom : cap < n + 1) (hlim : n ≤ 3000000000001) (hvb : w.heap[vb]? = some (.cells #[.string k, u] 53 (0, 0))) (hu : FB 5 w base u l) :
    Calls Try.prog 36 #[.slice (some ⟨g, 0, none⟩) n cap, .int .i64 i, .slice (some ⟨vb, 0, none⟩) 1 1] w (GivesIns w base ((us.take i ++ (k, l, u) :: us.drop i).map (fun x => (x.1, x.2.1)))) := by
  obtain ⟨m, hm⟩ : ∃ m, m = 1 := ⟨_, rfl⟩
  rw [show (Value.slice (some ⟨vb, 0, none⟩) 1 1) = .slice (some ⟨vb, 0, none⟩) m m by rw [hm]]
  have hcell : ∀ j, j < n * 2 → w.cell? ⟨g, j, none⟩ = (rowCells us)[j]? := fun j hj => by
    rw [cell_of_row _ g j cur 53 (0, 0) hg, ← htk, List.getElem?_take, if_pos hj, Array.getElem?_toList]
  have hone := rows_one hfs
  obtain ⟨i0, hi0, hz0, hz1, hz2⟩ := info_parts info53
  have hsz : (Try.prog.info? 53).map (·.size) = some 2 := by rw [hi0]; simp [hz1]
  have hrl := rowCells_length us
  obtain ⟨D, hD⟩ : ∃ D, D = (rowCells us).drop (i * 2) := ⟨_, rfl⟩
  have hdl : D.length = (n - i) * 2 := by rw [hD, List.length_drop, hrl, ← hn]; omega
  obtain ⟨hA, hAe⟩ : ∃ hA, hA = (rowCells us).take (i * 2) := ⟨_, rfl⟩
  have hal : hA.length = i * 2 := by rw [hAe, List.length_take, hrl, ← hn]; omega
  obtain ⟨vs, hvs⟩ : ∃ vs : List Value, vs = [.string k, u] := ⟨_, rfl⟩
  have hvl : vs.length = m * 2 := by rw [hvs, hm]; rfl
  have huo : ∀ x ∈ vs, x.oneCell' = true := by
    intro x hx
    rw [hvs] at hx
    simp only [List.mem_cons, List.not_mem_nil, or_false] at hx
    rcases hx with rfl | rfl
    · rfl
    · exact fb_one hu
  have hvc : ∀ j x, vs[j]? = some x → w.cell? ⟨vb, j, none⟩ = some x := fun j x hx => by
    rw [cell_of_row _ vb j _ 53 (0, 0) hvb, List.getElem?_toArray, ← hvs]
    exact hx
  have hgw : g < w.heap.size := (Array.getElem?_eq_some_iff.1 hg).1
  have hvw : vb < w.heap.size := (Array.getElem?_eq_some_iff.1 hvb).1
  have hold : (Builtin.firstCells i0.size i (.slice (some ⟨g, 0, none⟩) i cap)).run Try.prog w.drew = .ok hA.toArray w.drew := by
    rw [hz1]
    exact run_firstCells_some w.drew 2 i ⟨g, 0, none⟩ i cap hA hal (fun j x hj => by
      have hlt := (List.getElem?_eq_some_iff.1 hj).1
      rw [Addr.add_lit, Nat.zero_add]
      rw [hAe, List.getElem?_take, if_pos (by omega)] at hj
      exact (hcell j (by omega)).trans hj)
  have hkk : (n : Int) + (m : Int) - (i : Int) = ((n + m - i : Nat) : Int) := by omega
  have hik : i + (n + m - i) = n + m := by omega
  obtain ⟨G, hG⟩ : ∃ G, G = grownCap w (n + m) cap 53 := ⟨_, rfl⟩
  obtain ⟨Z, hZ⟩ : ∃ Z : Array Value, Z = #[.string ⟨#[]⟩, .slice none 0 0] := ⟨_, rfl⟩
  have hZs : Z.size = 2 := by rw [hZ]; rfl
  obtain ⟨ROW, hROW⟩ : ∃ ROW : Array Value, ROW = hA.toArray ++ Builtin.zeroCells Z (n + m - i) ++ Builtin.zeroCells Z (G - (n + m)) := ⟨_, rfl⟩
  have hGn : n + m ≤ G := by rw [hG]; exact grownCap_ge w _ _ _
  have hrsz : ROW.size = G * 2 := by
    rw [hROW, Array.size_append, Array.size_append, size_zeroCells, size_zeroCells, hZs, List.size_toArray, hal]
    omega
  have hG63 : G ≤ 9223372036854775807 := by
    have := grownCap_le_maxLen w (n + m) cap 53 (by unfold maxLen; omega)
    rw [← hG] at this
    unfold maxLen at this
    omega
  have hrz : ∀ ty, (Builtin.append_ #[34, 3] ty #[.slice (some ⟨g, 0, none⟩) i cap, .int .i64 ((n : Int) + (m : Int) - (i : Int))]).run Try.prog w =
      .ok (.slice (some ⟨w.heap.size, 0, none⟩) (n + m) G) (w.drew.alloc (.cells ROW 53)) := fun ty => by
    have h := Lib.run_append_grow_zeros w 34 3 ty 53 i0 _ .i64 .i64 Try.underlying34 Try.underlying3 hi0 hz0 (some ⟨g, 0, none⟩) i cap hA hold (n + m - i) (by omega) (by omega) (by omega) (by omega) (by rw [hz2]; omega) (by rw [hz2, hik]; exact growslice_fits (by omega) (by omega))
    rw [hik, ← hG] at h
    rw [hkk, hROW, hZ]
    exact h
  obtain ⟨W1, hW1⟩ : ∃ W1, W1 = w.drew.alloc (.cells ROW 53) := ⟨_, rfl⟩
  rw [← hW1] at hrz
  have hrowW1 : W1.heap[w.heap.size]? = some (.cells ROW 53 (0, 0)) := by rw [hW1]; exact heap_alloc_new w.drew _
  have hfarW1 : ∀ j, j < w.heap.size → W1.heap[j]? = w.heap[j]? := fun j hj => by rw [hW1]; exact Below.heap_alloc w.drew _ j hj
  have hcellW1 : ∀ b j, b < w.heap.size → W1.cell? ⟨b, j, none⟩ = w.cell? ⟨b, j, none⟩ := fun b j hb => World.cell?_of_block (a := ⟨b, j, none⟩) (hfarW1 b hb)
  have hvs2 := setCells_row (w := W1) (vs := vs) (cur := ROW) (o := i * 2) (t := 53) hrowW1 (by omega) huo
  have hrl0 := Array.length_toList (xs := ROW)
  have hslA := splice_len (L := ROW.toList) (vs := vs) (o := i * 2) (by omega)
  have hrowA : (W1.setCells w.heap.size (i * 2) vs).heap[w.heap.size]? = some (.cells (splice ROW.toList (i * 2) vs).toArray 53 (0, 0)) := by
    rw [hvs2]
    exact setRow_heap _ _ _ _ _ _ hrowW1
  have hfarA : ∀ j, j < w.heap.size → (W1.setCells w.heap.size (i * 2) vs).heap[j]? = w.heap[j]? := fun j hj => by
    rw [hvs2]
    exact (setRow_other _ _ _ _ (by omega)).trans (hfarW1 j hj)
  have hcpA : ∀ (W : World), (∀ x, W.cell? x = W1.cell? x) → (∀ x, W.frozen? x = W1.frozen? x) → ∀ ty dc, (Builtin.copy_ #[34, 34] ty #[.slice (some ⟨w.heap.size, i * 2, none⟩) (n + m - i) dc, .slice (some ⟨vb, 0, none⟩) m m]).run Try.prog W = .ok (goInt m) (W.setCells w.heap.size (i * 2) vs) := fun W hWc hWf ty dc =>
    run_copyS W _ _ ty 53 2 w.heap.size (i * 2) (n + m - i) dc ⟨vb, 0, none⟩ m m m vs Try.underlying34 hsz (by simp only [Nat.min_def]; split <;> omega) hvl
      (fun j x hj => by rw [Addr.add_lit, Nat.zero_add, hWc, hcellW1 vb j hvw]; exact hvc j x hj)
      (fun j hj => by rw [hWc, cell_of_row _ _ _ _ 53 (0, 0) hrowW1, Array.getElem?_eq_getElem (by omega)]; rfl) (fun j _ => by rw [hWf]; simp [World.frozen?, hrowW1]) huo
  have hD1 : ∀ x ∈ D, x.oneCell' = true := fun x hx => hone x (by rw [hD] at hx; exact List.mem_of_mem_drop hx)
  have hcpB : ∀ (W : World), (∀ x, W.cell? x = (W1.setCells w.heap.size (i * 2) vs).cell? x) → (∀ x, W.frozen? x = (W1.setCells w.heap.size (i * 2) vs).frozen? x) → ∀ ty dc sc, (Builtin.copy_ #[34, 34] ty #[.slice (some ⟨w.heap.size, (i + m) * 2, none⟩) (n + m - (i + m)) dc, .slice (some ⟨g, i * 2, none⟩) (n - i) sc]).run Try.prog W = .ok (goInt ((n - i : Nat) : Int)) (W.setCells w.heap.size ((i + m) * 2) D) := fun W hWc hWf ty dc sc =>
    run_copyS W _ _ ty 53 2 w.heap.size ((i + m) * 2) (n + m - (i + m)) dc ⟨g, i * 2, none⟩ (n - i) sc (n - i) D Try.underlying34 hsz (by simp only [Nat.min_def]; split <;> omega) hdl
      (fun j x hj => by
        have := (List.getElem?_eq_some_iff.1 hj).1
        rw [Addr.add_lit, hWc, World.cell?_of_block (a := ⟨g, i * 2 + j, none⟩) (hfarA g hgw)]
        exact (hcell (i * 2 + j) (by omega)).trans (by rw [hD, List.getElem?_drop] at hj; exact hj))
      (fun j hj => by rw [hWc, cell_of_row _ _ _ _ 53 (0, 0) hrowA, List.getElem?_toArray, List.getElem?_eq_getElem (by omega)]; rfl) (fun j _ => by rw [hWf]; simp [World.frozen?, hrowA]) hD1
  have hFB := setCells_row (w := (W1.setCells w.heap.size (i * 2) vs).drew) (vs := D) (o := (i + m) * 2) (t := 53) hrowA (by rw [List.size_toArray]; omega) hD1
  have hend : GivesIns w base ((us.take i ++ (k, l, u) :: us.drop i).map (fun x => (x.1, x.2.1))) (.returned (.slice (some ⟨w.heap.size, 0, none⟩) (n + m) G)) ((W1.setCells w.heap.size (i * 2) vs).drew.setCells w.heap.size ((i + m) * 2) D) := by
    rw [hFB]
    have hg2 := setRow_heap (W1.setCells w.heap.size (i * 2) vs).drew w.heap.size _ (splice (splice ROW.toList (i * 2) vs) ((i + m) * 2) D).toArray 53 (0, 0) hrowA
    have hsl2 := splice_len (L := splice ROW.toList (i * 2) vs) (vs := D) (o := (i + m) * 2) (by omega)
    have hZ1 : (Builtin.zeroCells Z (n + m - i)).toList.length = (n + m - i) * 2 := by rw [zero_len, hZs]
    have htk2 : (splice (splice ROW.toList (i * 2) vs) ((i + m) * 2) D).toArray.toList.take ((n + m) * 2) = rowCells (us.take i ++ (k, l, u) :: us.drop i) := by
      rw [take_splice (by omega) (by omega), take_splice (by omega) (by omega), rowCells_mid]
      have h1 : ROW.toList.take ((n + m) * 2) = hA ++ (Builtin.zeroCells Z (n + m - i)).toList.take (m * 2) ++ (Builtin.zeroCells Z (n + m - i)).toList.drop (m * 2) := by
        rw [hROW, Array.toList_append, Array.toList_append, List.toList_toArray, List.take_left' (by rw [List.length_append, hal, hZ1]; omega), List.append_assoc hA, List.take_append_drop]
      rw [h1, splice_two hal (by rw [List.length_take, hZ1]; omega) (by rw [List.length_take, hZ1]), ← List.append_nil (hA ++ vs ++ _), splice_two (by rw [List.length_append]; omega) (by rw [List.length_drop, hZ1]; omega) rfl, List.append_nil, hAe, hD, hvs]
    have hbel : Below w.heap.size w ((W1.setCells w.heap.size (i * 2) vs).drew.setRow w.heap.size (splice (splice ROW.toList (i * 2) vs) ((i + m) * 2) D).toArray) := by
      refine below_setRow (Below.drew ?_) (Nat.le_refl _) _
      rw [hvs2]
      refine below_setRow ?_ (Nat.le_refl _) _
      rw [hW1]
      exact (Below.refl _ _).drew.alloc (Nat.le_refl _) _
    refine ⟨_, rfl, OR.mk_ (by omega) hg2 (by rw [List.length_append, List.length_cons, List.length_take, List.length_drop]; omega) hGn (by unfold maxLen; omega) (by rw [List.size_toArray]; omega) htk2 (fun x hx => FB.below ?_ hbel), hbel.mono (by omega)⟩
    rcases List.mem_append.1 hx with hx | hx
    · exact hfs x (List.mem_of_mem_take hx)
    · rcases List.mem_cons.1 hx with rfl | hx
      · exact hu
      · exact hfs x (List.mem_of_mem_drop hx)
  have hE1 : ∀ x, ((w.alloc (.cells ROW 53)).drew).cell? x = W1.cell? x := fun x => by rw [hW1]; rfl
  have hE2 : ∀ x, ((w.alloc (.cells ROW 53)).drew).frozen? x = W1.frozen? x := fun x => by rw [hW1]; rfl
  have hF1 : ∀ x, ((W1.setCells w.heap.size (i * 2) vs).drew).cell? x = (W1.setCells w.heap.size (i * 2) vs).cell? x := fun x => rfl
  have hF2 : ∀ x, ((W1.setCells w.heap.size (i * 2) vs).drew).frozen? x = (W1.setCells w.heap.size (i * 2) vs).frozen? x := fun x => rfl
  have HEND := Lib.hid hend
  have q1 : ¬ ((m : Int) = 0) := by omega
  have q2 : ¬ ((i : Int) = (n : Int)) := by omega
  have q2' : (cap : Int) < (n : Int) + (m : Int) := by omega
  have q3 : IntKind.i64.wrap ((i : Int) + (m : Int)) = (i : Int) + (m : Int) := by rw [IntKind.wrap_i64]; omega
  have q4 : (0 : Int) ≤ (i : Int) + (m : Int) := by omega
  have q5 : i ≤ n := by omega
  have q6 : ((i : Int) + (m : Int)).toNat = i + m := by omega
  have q7 : ¬ (G = i) := by omega
  have q8 : ¬ (G = i + m) := by omega
  have q9 : ¬ (cap = i) := by omega
  have q10 : (i : Int) ≤ (n : Int) := by omega
  have q11 : (cap : Int) ≤ 9223372036854775807 := by unfold maxLen at hcm; omega
  have mixed : Try.prog.follows .mixedOrders = true := by kernel_rfl
  clear hW1 hend hFB hrowA hrowW1 hfarA hfarW1 hcellW1 hvs2 hrl0 hslA hD1 hROW hrsz hZ hZs hold hkk hik hG hgw hvw hvc huo hvl hvs hal hAe hdl hD hrl hone hcell hfs htk hn hg hvb hu hm hz2 hlim hroom
  go_enter Try.func36, Try.ntmps36
  go_wp2_with (first
    | (at_builtin; refine wpList_append_known rfl _ _ _ _ rfl rfl rfl (hrz _) ?_)
    | (at_builtin; refine wpList_copy_known rfl _ _ 34 34 rfl rfl rfl (hcpA _ (fun _ => rfl) (fun _ => rfl) _ _) ?_)
    | (at_builtin; refine wpList_copy_known rfl _ _ 34 34 rfl rfl rfl (hcpA _ hE1 hE2 _ _) ?_)
    | (at_builtin; refine wpList_copy_known rfl _ _ 34 34 rfl rfl rfl (hcpB _ (fun _ => rfl) (fun _ => rfl) _ _ _) ?_))
  go_region_law_o (refine step_copy_known rfl _ _ 34 34 rfl (by simp [Act.eval, Act.put]) (by simp [Act.eval, Act.put]) (hcpB _ hF1 hF2 _ _ _) ?_)
  go_wp2
  go_ret
  exact HEND.out

set_option maxRecDepth 100000 in
set_option maxHeartbeats 4000000 in
theorem insert_end (base n vb : Nat) (v : Value) (us : List (ByteArray × List UInt8 × Value)) (k : ByteArray) (u : Value) (l : List UInt8) (w : World) (hn : n = us.length)
    (hown : w.ownsRow base 53 2 v n (rowCells us)) (hfs : ∀ x ∈ us, FB 5 w base x.2.2 x.2.1) (hlim : n ≤ 3000000000001) (hvb : w.heap[vb]? = some (.cells #[.string k, u] 53 (0, 0))) (hu : FB 5 w base u l) (hbase : base ≤ w.heap.size) :
    Calls Try.prog 36 #[v, .int .i64 n, .slice (some ⟨vb, 0, none⟩) 1 1] w (GivesIns w base (us.map (fun x => (x.1, x.2.1)) ++ [(k, l)])) := by
  have hsrc : Src Try.prog 2 34 (.slice (some ⟨vb, 0, none⟩) 1 1) 1 [.string k, u] w := Src.ofSlice w Try.underlying34 ⟨vb, 0, none⟩ 1 1 [.string k, u] rfl (fun j x hj => by
      rw [Addr.add_lit, Nat.zero_add, cell_of_row _ vb j _ 53 (0, 0) hvb, List.getElem?_toArray]; exact hj) (fun x hx => by
      simp only [List.mem_cons, List.not_mem_nil, or_false] at hx
      rcases hx with rfl | rfl
      · rfl
      · exact fb_one hu)
  obtain ⟨A, c, rfl, hnc⟩ := own_shape hown
  have q11 : (c : Int) ≤ 9223372036854775807 := by
    rcases hown.2 with ⟨he, _⟩ | ⟨g, cap, cur, he, _, _, _, hcm, _⟩
    · injection he with _ _ e3; omega
    · injection he with _ _ e3; unfold maxLen at hcm; omega
  have HO := Lib.hid hown
  have HS := Lib.hid hsrc
  have HF := Lib.hid hfs
  have HU := Lib.hid hu
  have HN := Lib.hid hn
  clear hown hsrc hfs hu hvb hn
  go_enter Try.func36, Try.ntmps36
  go_wp2_with (at_builtin; refine wpList_own rfl (.tmp 23) (.tmp 24) 34 34 rfl base 53 (.agg #[.string ⟨#[]⟩, .slice none 0 0]) 2 40 Try.underlying34 info53 rfl rfl HO.out rfl HS.out (Below.refl base w) (Nat.le_refl _) (by unfold maxLen; omega) (by omega) hbase ?_; intro v5 w5 hown5 hbel5 hg5; have HR := Lib.hid (show OR 5 53 w5 base v5 (us.map (fun x => (x.1, x.2.1)) ++ [(k, l)]) from OR.push (by decide) (by rw [← HN.out]; exact HO.out) HF.out HU.out (by rw [← HN.out]; exact hown5) hg5); have HB5 := Lib.hid hbel5; clear hown5 hbel5 hg5)
  all_goals
    go_ret
    exact ⟨_, rfl, HR.out, HB5.out⟩

theorem insert_any (base at_ vb : Nat) (v : Value) (rs : List Rw) (k : ByteArray) (u : Value) (l : List UInt8) (w : World) (ho : OR 5 53 w base v rs) (hat : at_ ≤ rs.length) (hlim : rs.length ≤ 3000000000001)
    (hvb : w.heap[vb]? = some (.cells #[.string k, u] 53 (0, 0))) (hvg : ∀ g, v.ownBlock = some g → vb ≠ g) (hu : FB 5 w base u l) (hbase : base ≤ w.heap.size) :
    Calls Try.prog 36 #[v, .int .i64 at_, .slice (some ⟨vb, 0, none⟩) 1 1] w (GivesIns w base (rs.take at_ ++ (k, l) :: rs.drop at_)) := by
  obtain ⟨us, rfl, hown, hfs⟩ := ho
  rw [List.length_map] at hat hlim
  have hm : (us.map (fun x => (x.1, x.2.1))).take at_ ++ (k, l) :: (us.map (fun x => (x.1, x.2.1))).drop at_ = (us.take at_ ++ (k, l, u) :: us.drop at_).map (fun x => (x.1, x.2.1)) := by rw [List.map_append, List.map_cons, List.map_take, List.map_drop]
  rw [hm]
  rcases Nat.lt_or_ge at_ us.length with hlt | hge
  · have hown0 := hown
    rcases hown.2 with ⟨_, h0⟩ | ⟨g, cap, cur, rfl, hbg, hg, hnc, hcm, hcs, htk⟩
    · omega
    · rcases Nat.lt_or_ge cap (us.length + 1) with hr | hr
      · exact insert_grow base at_ g us.length cap vb cur us k u l w hbg hg rfl hnc hcm htk hfs hlt hr hlim hvb hu
      · exact insert_shift base at_ g us.length cap vb cur us k u l w hbg hg rfl hcm hcs htk hfs hlt hr hvb (hvg g rfl) hu
  · obtain rfl : at_ = us.length := by omega
    have h := insert_end base us.length vb v us k u l w rfl hown hfs hlim hvb hu hbase
    rw [List.take_length, List.drop_length, List.map_append]
    exact h
end Go.Proofs.Ytomkbgghljcbfaa

/-
  Words on rows of the call's own of which one is set anew. No program but the seat's types.
-/
namespace Go.Proofs.Ytomkbgghljcbfaa
open Go.RowKit Go.Rst Go.Pg Go.Crc
theorem rowCells_setK : ∀ (us : List (ByteArray × List UInt8 × Value)) (j : Nat) (h : j < us.length) (k : ByteArray), rowCells (us.set j (k, us[j].2)) = (rowCells us).set (j * 2) (.string k)
  | [], _, h, _ => by simp at h
  | x :: xs, 0, _, k => by simp [rowCells]
  | x :: xs, j + 1, h, k => by
    have ih := rowCells_setK xs j (by simpa using h) k
    simp only [rowCells, List.flatMap_cons, List.set_cons_succ, List.getElem_cons_succ, List.cons_append, List.nil_append] at ih ⊢
    rw [show (j + 1) * 2 = j * 2 + 1 + 1 from by omega, List.set_cons_succ, List.set_cons_succ, ih]
theorem rowCells_setV : ∀ (us : List (ByteArray × List UInt8 × Value)) (j : Nat) (h : j < us.length) (y : List UInt8 × Value), rowCells (us.set j (us[j].1, y)) = (rowCells us).set (j * 2 + 1) y.2
  | [], _, h, _ => by simp at h
  | x :: xs, 0, _, y => by simp [rowCells]
  | x :: xs, j + 1, h, y => by
    have ih := rowCells_setV xs j (by simpa using h) y
    simp only [rowCells, List.flatMap_cons, List.set_cons_succ, List.getElem_cons_succ, List.cons_append, List.nil_append] at ih ⊢
    rw [show (j + 1) * 2 = (j * 2 + 1) + 1 from by omega, List.set_cons_succ, ih]
theorem own_set {w : World} {base n c g : Nat} {e : TypeId} {size : Nat} {xs : List Value} (h : w.ownsRow base e size (.slice (some ⟨g, 0, none⟩) n c) n xs) (i : Nat) (u : Value) :
    (w.setCell ⟨g, i, none⟩ u).ownsRow base e size (.slice (some ⟨g, 0, none⟩) n c) n (xs.set i u) := by
  refine ⟨by rw [List.length_set]; exact h.1, ?_⟩
  rcases h.2 with ⟨he, _⟩ | ⟨g', cap, cur, he, hb, hg, hnc, hcm, hcs, ht⟩
  · cases he
  · injection he with he _ e3
    injection he with he
    injection he with e1 _ _
    subst e1
    subst e3
    refine .inr ⟨g, c, cur.setIfInBounds i u, rfl, hb, ?_, hnc, hcm, by rw [Array.size_setIfInBounds]; exact hcs, ?_⟩
    · simp [World.setCell, Array.getElem?_modify, hg]
    · rw [Array.toList_setIfInBounds, List.take_set, ht]
theorem fb_own {w : World} {base base' n c g : Nat} {e e' : TypeId} {size : Nat} {xs : List Value} (h : w.ownsRow base e size (.slice (some ⟨g, 0, none⟩) n c) n xs) (hne : e' ≠ e) (i : Nat) (u : Value) {v : Value} {l : List UInt8} (hf : FB e' w base' v l) : FB e' (w.setCell ⟨g, i, none⟩ u) base' v l := by
  refine hf.block_ (fun g' cur fr hg => (Below.heap_setCell w ⟨g, i, none⟩ u g' (fun hh => ?_)).trans hg)
  rcases h.2 with ⟨he, _⟩ | ⟨g2, cap, cur2, he, hb, hg2, _⟩
  · cases he
  · injection he with he _ _
    injection he with he
    injection he with e1 _ _
    subst e1
    have hh' : g' = g := hh
    subst hh'
    rw [hg] at hg2
    injection hg2 with hg2
    injection hg2 with _ h3 _
    exact hne h3
theorem or_setK {eR : TypeId} {w : World} {base n c g : Nat} {rs : List Rw} (h : OR 5 eR w base (.slice (some ⟨g, 0, none⟩) n c) rs) (hne : (5 : TypeId) ≠ eR) (hn : n = rs.length) {j : Nat} (hj : j < rs.length) (k : ByteArray) :
    OR 5 eR (w.setCell ⟨g, j * 2, none⟩ (.string k)) base (.slice (some ⟨g, 0, none⟩) n c) (rs.set j (k, rs[j].2)) := by
  obtain ⟨us, rfl, ho, hf⟩ := h
  rw [List.length_map] at hn
  subst hn
  have hj' : j < us.length := by simpa using hj
  refine ⟨us.set j (k, us[j].2), ?_, ?_, fun x hx => ?_⟩
  · rw [List.map_set]; simp
  · rw [List.length_set, rowCells_setK us j hj' k]
    exact own_set ho _ _
  · refine fb_own ho hne _ _ ?_
    rcases List.mem_or_eq_of_mem_set hx with hx | hx
    · exact hf x hx
    · rw [hx]
      exact hf us[j] (List.getElem_mem hj')
theorem or_setV {eR : TypeId} {w : World} {base n c g : Nat} {rs : List Rw} (h : OR 5 eR w base (.slice (some ⟨g, 0, none⟩) n c) rs) (hne : (5 : TypeId) ≠ eR) (hn : n = rs.length) {j : Nat} (hj : j < rs.length) {u : Value} {l : List UInt8} (hu : FB 5 w base u l) :
    OR 5 eR (w.setCell ⟨g, j * 2 + 1, none⟩ u) base (.slice (some ⟨g, 0, none⟩) n c) (rs.set j (rs[j].1, l)) := by
  obtain ⟨us, rfl, ho, hf⟩ := h
  rw [List.length_map] at hn
  subst hn
  have hj' : j < us.length := by simpa using hj
  refine ⟨us.set j (us[j].1, l, u), ?_, ?_, fun x hx => ?_⟩
  · rw [List.map_set]; simp
  · rw [List.length_set, rowCells_setV us j hj' (l, u)]
    exact own_set ho _ _
  · refine fb_own ho hne _ _ ?_
    rcases List.mem_or_eq_of_mem_set hx with hx | hx
    · exact hf x hx
    · rw [hx]
      exact hu
/-- A row set whole. -/
theorem or_setR {eR : TypeId} {w : World} {base n c g : Nat} {rs : List Rw} (h : OR 5 eR w base (.slice (some ⟨g, 0, none⟩) n c) rs) (hne : (5 : TypeId) ≠ eR) (hn : n = rs.length) {j : Nat} (hj : j < rs.length) {k : ByteArray} {u : Value} {l : List UInt8} (hu : FB 5 w base u l) :
    OR 5 eR ((w.setCell ⟨g, j * 2, none⟩ (.string k)).setCell ⟨g, j * 2 + 1, none⟩ u) base (.slice (some ⟨g, 0, none⟩) n c) (rs.set j (k, l)) := by
  have h1 := or_setK h hne hn hj k
  have h0 := h
  obtain ⟨us, hus, ho, _⟩ := h0
  have hul : us.length = n := by rw [hn, ← hus, List.length_map]
  rw [hul] at ho
  have h2 := or_setV h1 hne (by rw [List.length_set]; exact hn) (j := j) (by rw [List.length_set]; exact hj) (fb_own ho hne (j * 2) (.string k) hu)
  rw [List.getElem_set_self, List.set_set] at h2
  exact h2
theorem fb_setK {eR : TypeId} {w : World} {base base' n c g : Nat} {rs : List Rw} (h : OR 5 eR w base (.slice (some ⟨g, 0, none⟩) n c) rs) (hne : (5 : TypeId) ≠ eR) (hn : n = rs.length) (i : Nat) (x : Value) {u : Value} {l : List UInt8} (hf : FB 5 w base' u l) : FB 5 (w.setCell ⟨g, i, none⟩ x) base' u l := by
  obtain ⟨us, hus, ho, _⟩ := h
  have hul : us.length = n := by rw [hn, ← hus, List.length_map]
  rw [hul] at ho
  exact fb_own ho hne i x hf
theorem fb_setR {eR : TypeId} {w : World} {base base' n c g : Nat} {rs : List Rw} (h : OR 5 eR w base (.slice (some ⟨g, 0, none⟩) n c) rs) (hne : (5 : TypeId) ≠ eR) (hn : n = rs.length) {j : Nat} (hj : j < rs.length) {k : ByteArray} {x : Value} {u : Value} {l : List UInt8} (hf : FB 5 w base' u l) :
    FB 5 ((w.setCell ⟨g, j * 2, none⟩ (.string k)).setCell ⟨g, j * 2 + 1, none⟩ x) base' u l :=
  fb_setK (or_setK h hne hn hj k) hne (by rw [List.length_set]; exact hn) _ _ (fb_setK h hne hn _ _ hf)
theorem or_base {eR : TypeId} {w : World} {base n c g : Nat} {rs : List Rw} (h : OR 5 eR w base (.slice (some ⟨g, 0, none⟩) n c) rs) : base ≤ g := by
  obtain ⟨us, _, ho, _⟩ := h
  rcases ho.2 with ⟨he, _⟩ | ⟨g2, cap, cur2, he, hb, _⟩
  · cases he
  · injection he with he _ _
    injection he with he
    injection he with e1 _ _
    subst e1
    exact hb
theorem or_frozen {eR : TypeId} {w : World} {base n c g : Nat} {rs : List Rw} (h : OR 5 eR w base (.slice (some ⟨g, 0, none⟩) n c) rs) (i : Nat) : w.frozen? ⟨g, i, none⟩ = false := by
  obtain ⟨us, _, ho, _⟩ := h
  rcases ho.2 with ⟨he, _⟩ | ⟨g2, cap, cur2, he, hb, hg2, _⟩
  · cases he
  · injection he with he _ _
    injection he with he
    injection he with e1 _ _
    subst e1
    exact Blk.frozen (t := eR) (cs := cur2) hg2 i
end Go.Proofs.Ytomkbgghljcbfaa

/-
  Words on rows whose cells lie here and whose values lay there before. No program but the seat's types.
-/
namespace Go.Proofs.Ytomkbgghljcbfaa
open Go.RowKit Go.Rst Go.Pg Go.Crc
/-- Rows as they read in w, whose values read in W0. -/
def RV (W0 w : World) (v : Value) (rs : List Rw) : Prop :=
  ∃ A c, v = .slice A rs.length c ∧ rs.length ≤ c ∧ c ≤ maxLen ∧ (rs = [] ∨ ∃ b off, A = some ⟨b, off, none⟩ ∧ b < w.heap.size ∧
    ∀ j (h : j < rs.length), w.cell? ⟨b, off + j * 2, none⟩ = some (.string rs[j].1) ∧ ∃ u, w.cell? ⟨b, off + j * 2 + 1, none⟩ = some u ∧ RB W0 u rs[j].2)
theorem RV.of {w : World} {v : Value} {rs : List Rw} (h : RR w v rs) : RV w w v rs := h
theorem RV.rr {W0 w : World} {v : Value} {rs : List Rw} (h : RV W0 w v rs) (hb : Below W0.heap.size W0 w) : RR w v rs := by
  obtain ⟨A, c, rfl, h1, h2, h3⟩ := h
  refine ⟨A, c, rfl, h1, h2, h3.imp id fun h => ?_⟩
  obtain ⟨b, off, rfl, hb0, hc⟩ := h
  refine ⟨b, off, rfl, hb0, fun j hj => ?_⟩
  obtain ⟨h4, u, h5, h6⟩ := hc j hj
  exact ⟨h4, u, h5, h6.below hb⟩
theorem RV.below {W0 w w' : World} {B : Nat} {v : Value} {rs : List Rw} (h : RV W0 w v rs) (hb : Below B w w') (hB : w.heap.size ≤ B) : RV W0 w' v rs := by
  obtain ⟨A, c, rfl, h1, h2, h3⟩ := h
  refine ⟨A, c, rfl, h1, h2, h3.imp id fun h => ?_⟩
  obtain ⟨b, off, rfl, hb0, hc⟩ := h
  refine ⟨b, off, rfl, Nat.lt_of_lt_of_le hb0 hb.size, fun j hj => ?_⟩
  obtain ⟨h4, u, h5, h6⟩ := hc j hj
  exact ⟨(hb.cell (p := ⟨b, _, none⟩) (by show b < B; omega)).trans h4, u, (hb.cell (p := ⟨b, _, none⟩) (by show b < B; omega)).trans h5, h6⟩
theorem RV.shape {W0 w : World} {v : Value} {rs : List Rw} (h : RV W0 w v rs) : ∃ A c, v = .slice A rs.length c ∧ rs.length ≤ c ∧ (c : Int) ≤ 9223372036854775807 := by
  obtain ⟨A, c, h, h1, h2, _⟩ := h
  refine ⟨A, c, h, h1, ?_⟩
  unfold maxLen at h2; omega
theorem rv_at {W0 w : World} {A : Option Addr} {n c : Nat} {rs : List Rw} (h : RV W0 w (.slice A n c) rs) {k : Nat} (hk : k < rs.length) :
    ∃ b off u, A = some ⟨b, off, none⟩ ∧ b < w.heap.size ∧ w.cell? ⟨b, off + k * 2, none⟩ = some (.string rs[k].1) ∧ w.cell? ⟨b, off + k * 2 + 1, none⟩ = some u ∧ RB W0 u rs[k].2 := by
  obtain ⟨A', c', he, _, _, h3⟩ := h
  injection he with e1 _ _
  subst e1
  rcases h3 with rfl | ⟨b, off, rfl, hb, hc⟩
  · simp at hk
  · obtain ⟨h1, u, h2, h3⟩ := hc k hk
    exact ⟨b, off, u, rfl, hb, h1, h2, h3⟩
theorem RV.own {W0 w : World} {base : Nat} {eR : TypeId} {v : Value} {us : List (ByteArray × List UInt8 × Value)} (ho : w.ownsRow base eR 2 v us.length (rowCells us)) (hf : ∀ x ∈ us, RB W0 x.2.2 x.2.1) : RV W0 w v (us.map (fun x => (x.1, x.2.1))) := by
  rcases ho.2 with ⟨rfl, h0⟩ | ⟨g, cap, cur, rfl, hb, hg, hnc, hcm, hcs, ht⟩
  · have : us = [] := List.eq_nil_of_length_eq_zero h0
    subst this
    exact ⟨none, 0, rfl, Nat.le_refl _, Nat.zero_le _, .inl rfl⟩
  · refine ⟨some ⟨g, 0, none⟩, cap, by rw [List.length_map], by rw [List.length_map]; exact hnc, hcm, .inr ⟨g, 0, rfl, (Array.getElem?_eq_some_iff.1 hg).1, fun j hj => ?_⟩⟩
    rw [List.length_map] at hj
    have hc := rowCells_get us j hj
    have h1 := ho.cells (g := g) rfl _ _ hc.1
    have h2 := ho.cells (g := g) rfl _ _ hc.2
    rw [Addr.add_lit] at h1 h2
    refine ⟨by simpa using h1, us[j].2.2, by simpa [Nat.add_assoc] using h2, ?_⟩
    have := hf us[j] (List.getElem_mem hj)
    simpa using this
theorem rb_shape {w : World} {v : Value} {l : List UInt8} (h : RB w v l) : ∃ A c, v = .slice A l.length c := by
  obtain ⟨A, c, h, _⟩ := h
  exact ⟨A, c, h⟩
end Go.Proofs.Ytomkbgghljcbfaa
