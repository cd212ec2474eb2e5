/-
  Plain mathematics: the rows that choices say: how many, how long.
-/
import Derived.Test.YtomkbgghljcbfaaRowList
import Derived.Test.YtomkbgghljcbfaaGBack
import Derived.Test.YtomkbgghljcbfaaGSec
set_option linter.unusedVariables false

namespace Go.Proofs.Ytomkbgghljcbfaa
open Go.RowKit Go.Rst

theorem rowOf_len (x y : UInt8) : (rowL (rowOf x y).1.data.toList (rowOf x y).2).length ≤ 200 := by
  have h1 : rlen x y ≤ 150 := by unfold rlen; split <;> omega
  have h2 := numL_len8 (n := rlen x y) (by omega)
  have h3 := numL_len8 (n := 2) (by omega)
  unfold rowOf rowL textL
  simp only [List.length_append, fill_length]
  show (numL 2).length + 2 + _ ≤ 200
  omega
theorem rowsAt_len (l : List UInt8) : ∀ k, (rowsB (rowsAt l k)).length ≤ 200 * k
  | 0 => by simp [rowsAt, rowsB]
  | k + 1 => by
    have ih := rowsAt_len l k
    rw [rowsAt_succ]
    unfold rowsB at ih ⊢
    rw [List.flatMap_append, List.length_append]
    have := rowOf_len (l.getD (2 * k) 0) (l.getD (2 * k + 1) 0)
    simp only [List.flatMap_cons, List.flatMap_nil, List.append_nil]
    omega
theorem rowsAt_length (l : List UInt8) (k : Nat) : (rowsAt l k).length = k := by simp [rowsAt]
/-- The bytes of the rows that choices say. -/
def madeB (l : List UInt8) (n : Nat) : List UInt8 := rowsL (rowsAt l (nrows l n))
theorem nrows_le (l : List UInt8) (n : Nat) : nrows l n ≤ n := by unfold nrows; omega
theorem madeB_len (l : List UInt8) {n : Nat} (hn : n ≤ 100) : (madeB l n).length ≤ 20008 := by
  have h1 := rowsAt_len l (nrows l n)
  have h2 := nrows_le l n
  have h3 := numL_len8 (n := nrows l n) (by omega)
  unfold madeB rowsL
  rw [List.length_append, rowsAt_length]
  omega
theorem rowsAt_short (l : List UInt8) (k : Nat) : Short (rowsAt l k) := by
  intro r hr
  simp only [rowsAt, List.mem_map] at hr
  obtain ⟨j, _, rfl⟩ := hr
  unfold rowOf
  refine ⟨by simp, ?_⟩
  simp only [fill_length]
  unfold rlen
  split <;> omega
end Go.Proofs.Ytomkbgghljcbfaa

/-
  The contract of the statements' own ChangeList: changes, as choices say.
-/
namespace Go.Proofs.Ytomkbgghljcbfaa
open Go.RowKit Go.Rst

def chgOf (r : ByteArray × List UInt8) : Chg := if r.2.length % 4 = 0 then (r.1, [], true) else (r.1, r.2, false)
def GivesCL (w : World) (rs : List Chg) (e : Ending) (w' : World) : Prop := ∃ u, e = .returned u ∧ OC 5 51 w' w.heap.size u rs ∧ Below w.heap.size w w'
theorem own_drew {w : World} {base : Nat} {e : TypeId} {size : Nat} {v : Value} {n : Nat} {xs : List Value} (h : w.ownsRow base e size v n xs) : w.drew.ownsRow base e size v n xs := h
theorem or_both {e : TypeId} {w : World} {base : Nat} {v : Value} {rs : List (ByteArray × List UInt8)} (h : OR e 53 w base v rs) {j : Nat} (hj : j < rs.length) :
    ∃ g cap u, v = .slice (some ⟨g, 0, none⟩) rs.length cap ∧ rs.length ≤ cap ∧ cap ≤ maxLen ∧ g < w.heap.size ∧ w.cell? ⟨g, j * 2, none⟩ = some (.string rs[j].1) ∧ w.cell? ⟨g, j * 2 + 1, none⟩ = some u ∧ FB e w base u rs[j].2 := by
  obtain ⟨us, rfl, ho, hf⟩ := h
  have hj' : j < us.length := by simpa using hj
  rcases ho.2 with ⟨_, h0⟩ | ⟨g, cap, cur, rfl, hb, hg, hnc, hcm, hcs, ht⟩
  · omega
  · have h1 := rowCells_get us j hj'
    have hlen := rowCells_length us
    have hcell : ∀ i, i < us.length * 2 → w.cell? ⟨g, i, none⟩ = (rowCells us)[i]? := by
      intro i hi
      rw [cell_of_row _ g i cur 53 (0, 0) hg, ← ht, List.getElem?_take, if_pos (by omega), Array.getElem?_toList]
    refine ⟨g, cap, us[j].2.2, by simp, by simpa using hnc, hcm, (Array.getElem?_eq_some_iff.1 hg).1, ?_, ?_, ?_⟩
    · rw [hcell _ (by omega), h1.1]; simp
    · rw [hcell _ (by omega), h1.2]
    · have := hf us[j] (List.getElem_mem hj')
      simpa using this

set_option maxRecDepth 100000 in
set_option maxHeartbeats 4000000 in
theorem changeList_any (v : Value) (l : List UInt8) (n : Nat) (hn : n ≤ 100) (w : World) (hv : RB w v l) (hl : l.length ≤ 140737488351232) :
    Calls Try.prog 13 #[v, .int .i64 n] w (GivesCL w ((rowsAt l (nrows l n)).map chgOf)) := by
  have hcall := rowList_any v l n hn w hv hl
  have hlen : (rowsAt l (nrows l n)).length ≤ 100 := by rw [rowsAt_length]; unfold nrows; omega
  generalize rowsAt l (nrows l n) = rs at *
  have HC := Lib.hid hcall
  obtain ⟨A, c, rfl, h1, h2, _⟩ := hv
  unfold maxLen at h2
  clear hcall
  go_enter Try.func13, Try.ntmps13
  go_wp2_with fail
  refine HC.out.mono ?_
  rintro e w2 ⟨v2, rfl, hor, hb2⟩
  have HR := Lib.hid hor
  have HB2 := Lib.hid hb2
  obtain ⟨A2, c2, rfl⟩ := or_shape hor
  clear hor hb2 HC
  go_wp2
  go_loopw [5, 7] (fun b i wr => ∃ (k : Nat) (us : List (Chg × Value)), k ≤ rs.length ∧ i = .int .i64 k ∧ us.map (·.1) = (rs.take k).map chgOf ∧ wr.ownsRow w2.heap.size 51 3 b us.length (chCells us) ∧ (∀ x ∈ us, FB 5 w2 w.heap.size x.2 x.1.2.1) ∧ Below w2.heap.size w2 wr)
    (fun _ i _ => rs.length - (intOf i).toNat)
  case atStart => exact ⟨0, [], Nat.zero_le _, rfl, rfl, World.ownsRow_nil _ _ _ _, fun _ h => (by cases h), Below.refl _ _⟩
  case round =>
    obtain ⟨k, us, hk, rfl, hus, hown, hfs, hbel⟩ := hrel
    by_cases hlt : k < rs.length
    · obtain ⟨g, cap, u, hsh, hcl, hcm, hgl, hk0, hk1, hfb⟩ := or_both HR.out hlt
      have hlk : us.length = k := by have := congrArg List.length hus; simp only [List.length_map, List.length_take] at this; omega
      have htk : (rs.take (k + 1)).map chgOf = (rs.take k).map chgOf ++ [chgOf rs[k]] := by rw [List.take_succ_eq_append_getElem hlt, List.map_append]; rfl
      obtain ⟨⟨key, val⟩, hr⟩ : ∃ r, rs[k] = r := ⟨_, rfl⟩
      rw [hr] at hk0 hfb htk
      simp only at hk0 hfb
      simp only [Value.slice.injEq] at hsh
      obtain ⟨rfl, _, rfl⟩ := hsh
      obtain ⟨Au, cu, rfl⟩ := hfb.shape
      have HTK := Lib.hid htk
      have HUS := Lib.hid hus
      have HLK := Lib.hid hlk
      have HFS := Lib.hid hfs
      have HFB := Lib.hid hfb
      have HO := Lib.hid hown
      have HB := Lib.hid hbel
      obtain ⟨A3, c3, rfl, hc3⟩ := own_shape hown
      have b1 : (0 : Int) ≤ (k : Int) := by omega
      have b2 : (k : Int) < (rs.length : Int) := by omega
      unfold maxLen at hcm
      have hval : val.length ≤ 9223372036854775807 := by obtain ⟨A', c', h, h', h'', _⟩ := hfb.rb; unfold maxLen at h''; omega
      clear htk hus hlk hfs hfb hown hbel hr
      go_wp2
      refine wp_region_held_drew (S := fun X => Below w2.heap.size w2 X) (by kernel_rfl) HB.out.drew (fun hHeld => ?_)
      have hown0 := own_drew HO.out
      generalize wr.drew = w0 at *
      refine wpAnyH_take (i := 0) (oi := { dst := some 18, op := Op.move (Operand.tmp 6), type := 34, pos := "law.go:38", after := #[], guard := none }) (v := ?_) rfl (by kernel_rfl) (by kernel_rfl) (by kernel_rfl) (fun _ _ _ h => h) (Or.inl ⟨by rfl, ?_⟩) (by assumption) ?_
      rotate_left
      · intro X hSw; go_simp; try (with_reducible rfl)
      try simp only [Act.put, List.setIfInBounds_toArray, List.set_cons_zero, List.set_cons_succ]
      refine wpAnyH_take (i := 1) (oi := { dst := some 19, op := Op.move (Operand.tmp 7), type := 3, pos := "law.go:38", after := #[], guard := none }) (v := ?_) rfl (by kernel_rfl) (by kernel_rfl) (by kernel_rfl) (fun _ _ _ h => h) (Or.inl ⟨by rfl, ?_⟩) (by assumption) ?_
      rotate_left
      · intro X hSw; go_simp; try (with_reducible rfl)
      try simp only [Act.put, List.setIfInBounds_toArray, List.set_cons_zero, List.set_cons_succ]
      refine wpAnyH_take (i := 2) (oi := { dst := some 20, op := Op.indexAddr 34 (Operand.tmp 18) (Operand.tmp 19), type := 0, pos := "law.go:38", after := #[{ on := 0, ground := Ground.data }, { on := 1, ground := Ground.data }], guard := none }) (v := ?_) rfl (by kernel_rfl) (by kernel_rfl) (by kernel_rfl) (fun _ _ _ h => h) (Or.inl ⟨by rfl, ?_⟩) (by assumption) ?_
      rotate_left
      · intro X hSw; go_simp; try (with_reducible rfl)
      try simp only [Act.put, List.setIfInBounds_toArray, List.set_cons_zero, List.set_cons_succ]
      refine wpAnyH_take (i := 3) (oi := { dst := some 21, op := Op.fieldAddr 53 (Operand.tmp 20) 0, type := 0, pos := "law.go:38", after := #[{ on := 2, ground := Ground.data }], guard := none }) (v := ?_) rfl (by kernel_rfl) (by kernel_rfl) (by kernel_rfl) (fun _ _ _ h => h) (Or.inl ⟨by rfl, ?_⟩) (by assumption) ?_
      rotate_left
      · intro X hSw; go_simp; try (with_reducible rfl)
      try simp only [Act.put, List.setIfInBounds_toArray, List.set_cons_zero, List.set_cons_succ]
      refine wpAnyH_take (i := 4) (oi := { dst := some 22, op := Op.load 9 (Operand.tmp 21), type := 9, pos := "law.go:38", after := #[{ on := 3, ground := Ground.data }], guard := none }) (v := ?_) rfl (by kernel_rfl) (by kernel_rfl) (by kernel_rfl) (fun _ _ _ h => h) (Or.inl ⟨by rfl, ?_⟩) (by assumption) ?_
      rotate_left
      · intro X hSw; have hq := (hSw.cell (p := ⟨g, k * 2, none⟩) hgl).trans hk0; go_simp; try (with_reducible rfl)
      try simp only [Act.put, List.setIfInBounds_toArray, List.set_cons_zero, List.set_cons_succ]
      refine wpAnyH_take (i := 5) (oi := { dst := some 23, op := Op.move (Operand.tmp 6), type := 34, pos := "law.go:38", after := #[], guard := none }) (v := ?_) rfl (by kernel_rfl) (by kernel_rfl) (by kernel_rfl) (fun _ _ _ h => h) (Or.inl ⟨by rfl, ?_⟩) (by assumption) ?_
      rotate_left
      · intro X hSw; go_simp; try (with_reducible rfl)
      try simp only [Act.put, List.setIfInBounds_toArray, List.set_cons_zero, List.set_cons_succ]
      refine wpAnyH_take (i := 6) (oi := { dst := some 24, op := Op.move (Operand.tmp 7), type := 3, pos := "law.go:38", after := #[], guard := none }) (v := ?_) rfl (by kernel_rfl) (by kernel_rfl) (by kernel_rfl) (fun _ _ _ h => h) (Or.inl ⟨by rfl, ?_⟩) (by assumption) ?_
      rotate_left
      · intro X hSw; go_simp; try (with_reducible rfl)
      try simp only [Act.put, List.setIfInBounds_toArray, List.set_cons_zero, List.set_cons_succ]
      refine wpAnyH_take (i := 7) (oi := { dst := some 25, op := Op.indexAddr 34 (Operand.tmp 23) (Operand.tmp 24), type := 0, pos := "law.go:38", after := #[{ on := 5, ground := Ground.data }, { on := 6, ground := Ground.data }], guard := none }) (v := ?_) rfl (by kernel_rfl) (by kernel_rfl) (by kernel_rfl) (fun _ _ _ h => h) (Or.inl ⟨by rfl, ?_⟩) (by assumption) ?_
      rotate_left
      · intro X hSw; go_simp; try (with_reducible rfl)
      try simp only [Act.put, List.setIfInBounds_toArray, List.set_cons_zero, List.set_cons_succ]
      refine wpAnyH_take (i := 8) (oi := { dst := some 26, op := Op.fieldAddr 53 (Operand.tmp 25) 1, type := 0, pos := "law.go:38", after := #[{ on := 7, ground := Ground.data }], guard := none }) (v := ?_) rfl (by kernel_rfl) (by kernel_rfl) (by kernel_rfl) (fun _ _ _ h => h) (Or.inl ⟨by rfl, ?_⟩) (by assumption) ?_
      rotate_left
      · intro X hSw; go_simp; try (with_reducible rfl)
      try simp only [Act.put, List.setIfInBounds_toArray, List.set_cons_zero, List.set_cons_succ]
      refine wpAnyH_take (i := 9) (oi := { dst := some 27, op := Op.load 23 (Operand.tmp 26), type := 23, pos := "law.go:38", after := #[{ on := 8, ground := Ground.data }], guard := none }) (v := ?_) rfl (by kernel_rfl) (by kernel_rfl) (by kernel_rfl) (fun _ _ _ h => h) (Or.inl ⟨by rfl, ?_⟩) (by assumption) ?_
      rotate_left
      · intro X hSw; have hq := (hSw.cell (p := ⟨g, k * 2 + 1, none⟩) hgl).trans hk1; go_simp; try (with_reducible rfl)
      try simp only [Act.put, List.setIfInBounds_toArray, List.set_cons_zero, List.set_cons_succ]
      refine wpAnyH_take (i := 10) (oi := { dst := some 28, op := Op.build 51 #[(0, Operand.tmp 22), (1, Operand.tmp 27)], type := 51, pos := "law.go:38", after := #[{ on := 4, ground := Ground.data }, { on := 9, ground := Ground.data }], guard := none }) (v := ?_) rfl (by kernel_rfl) (by kernel_rfl) (by kernel_rfl) (fun _ _ _ h => h) (Or.inl ⟨by rfl, ?_⟩) (by assumption) ?_
      rotate_left
      · intro X hSw; go_simp; try (with_reducible rfl)
      try simp only [Act.put, List.setIfInBounds_toArray, List.set_cons_zero, List.set_cons_succ]
      refine wpAnyH_ready (rs := [11]) (by kernel_rfl) (by simp) ?_
      refine AllReadyH.cons (o := { dst := some 8, op := Op.alloc 51, type := 0, pos := "law.go:38", after := #[], guard := none }) rfl (fun K hK => ?_) AllReadyH.nil
      go_simp
      have hHeld1 := hHeld.alloc hHeld.size (Obj.cells #[.string ⟨#[]⟩, .slice none 0 0, .bool false] 51)
      refine hK.out _ _ ?_ (fun _ => ?_)
      · exact hHeld1
      clear hK K
      try simp only [Act.put, List.setIfInBounds_toArray, List.set_cons_zero, List.set_cons_succ]
      refine wpAnyH_ready (rs := [12]) (by kernel_rfl) (by simp) ?_
      refine AllReadyH.cons (o := { dst := none, op := Op.store 51 (Operand.tmp 8) (Operand.tmp 28), type := 0, pos := "law.go:38", after := #[{ on := 11, ground := Ground.data }, { on := 10, ground := Ground.data }, { on := 0, ground := Ground.phase }, { on := 1, ground := Ground.phase }, { on := 2, ground := Ground.phase }, { on := 3, ground := Ground.phase }, { on := 4, ground := Ground.phase }, { on := 5, ground := Ground.phase }, { on := 6, ground := Ground.phase }, { on := 7, ground := Ground.phase }, { on := 8, ground := Ground.phase }, { on := 9, ground := Ground.phase }, { on := 10, ground := Ground.phase }, { on := 11, ground := Ground.phase }], guard := none }) rfl (fun K hK => ?_) AllReadyH.nil
      go_simp
      refine hK.out _ _ ?_ (fun _ => ?_)
      · exact hHeld.alloc hHeld.size _
      clear hK K hHeld1
      try simp only [Act.put, List.setIfInBounds_toArray, List.set_cons_zero, List.set_cons_succ]
      refine wpAnyH_done (by kernel_rfl) ?_ _
      by_cases h4 : val.length % 4 = 0
      · have hch : chgOf (key, val) = (key, [], true) := by unfold chgOf; exact if_pos h4
        have hm4 : (val.length : Int) % 4 = 0 := by omega
        have hm5 : (val.length : Int).tmod 4 = 0 := by rw [Int.tmod_eq_emod_of_nonneg (by omega)]; omega
        clear h4
        have hbA := hHeld.alloc hHeld.size (Obj.cells #[.string key, .slice none 0 0, .bool true] 51)
        have hbB := hbA.alloc hbA.size (Obj.cells #[.string key, .slice none 0 0, .bool true] 51)
        have ho := own_below (own_below hown0 ((Below.refl _ _).alloc (Nat.le_refl _) (Obj.cells #[.string key, .slice none 0 0, .bool true] 51))) ((Below.refl _ _).alloc (Nat.le_refl _) (Obj.cells #[.string key, .slice none 0 0, .bool true] 51))
        have hsz2 := HB2.out.size
        clear hHeld hown0
        go_wp2_with (at_builtin; refine wpList_own rfl (.tmp 37) (.tmp 39) 22 22 rfl w2.heap.size 51 (.agg #[.string ⟨#[]⟩, .slice none 0 0, .bool false]) 3 48 Try.underlying22 info51 rfl rfl ho rfl (src_three _ (by simp) Try.underlying22 51 _ _ _ rfl rfl rfl) hbB (Nat.le_refl _) ?_ ?_ ?_ ?_)
        · have := HLK.out; unfold maxLen; omega
        · have := HLK.out; omega
        · exact hbB.size
        intro v' w4 ho' hb4 hg4
        have HB4 := Lib.hid hb4
        have HO4 := Lib.hid ho'
        clear ho ho' hb4 hg4 hbA hbB
        go_wp2
        go_roundw
        case rel =>
          refine ⟨k + 1, us ++ [((key, [], true), .slice none 0 0)], by omega, by go_num, ?_, ?_, ?_, HB4.out⟩
          · rw [HTK.out, List.map_append, HUS.out, hch]; rfl
          · have ho' := HO4.out
            unfold chCells at ho' ⊢
            rw [List.length_append, List.flatMap_append]
            exact ho'
          · intro x hx
            rcases List.mem_append.1 hx with hx | hx
            · exact HFS.out x hx
            · simp only [List.mem_singleton] at hx
              subst hx
              exact .inl ⟨rfl, rfl⟩
        case measure => simp [intOf]; omega
      · have hch : chgOf (key, val) = (key, val, false) := by unfold chgOf; exact if_neg h4
        have hm4 : (val.length : Int) % 4 ≠ 0 := by omega
        have hm5 : (val.length : Int).tmod 4 ≠ 0 := by rw [Int.tmod_eq_emod_of_nonneg (by omega)]; omega
        clear h4
        have hbA := hHeld.alloc hHeld.size (Obj.cells #[.string key, .slice Au val.length cu, .bool false] 51)
        have hbB := hbA.alloc hbA.size (Obj.cells #[.string key, .slice Au val.length cu, .bool false] 51)
        have ho := own_below (own_below hown0 ((Below.refl _ _).alloc (Nat.le_refl _) (Obj.cells #[.string key, .slice Au val.length cu, .bool false] 51))) ((Below.refl _ _).alloc (Nat.le_refl _) (Obj.cells #[.string key, .slice Au val.length cu, .bool false] 51))
        have hsz2 := HB2.out.size
        clear hHeld hown0
        go_wp2_with (at_builtin; refine wpList_own rfl (.tmp 37) (.tmp 39) 22 22 rfl w2.heap.size 51 (.agg #[.string ⟨#[]⟩, .slice none 0 0, .bool false]) 3 48 Try.underlying22 info51 rfl rfl ho rfl (src_three _ (by simp) Try.underlying22 51 _ _ _ rfl rfl rfl) hbB (Nat.le_refl _) ?_ ?_ ?_ ?_)
        · have := HLK.out; unfold maxLen; omega
        · have := HLK.out; omega
        · exact hbB.size
        intro v' w4 ho' hb4 hg4
        have HB4 := Lib.hid hb4
        have HO4 := Lib.hid ho'
        clear ho ho' hb4 hg4 hbA hbB
        go_wp2
        go_roundw
        case rel =>
          refine ⟨k + 1, us ++ [((key, val, false), .slice Au val.length cu)], by omega, by go_num, ?_, ?_, ?_, HB4.out⟩
          · rw [HTK.out, List.map_append, HUS.out, hch]; rfl
          · have ho' := HO4.out
            unfold chCells at ho' ⊢
            rw [List.length_append, List.flatMap_append]
            exact ho'
          · intro x hx
            rcases List.mem_append.1 hx with hx | hx
            · exact HFS.out x hx
            · simp only [List.mem_singleton] at hx
              subst hx
              exact HFB.out
        case measure => simp [intOf]; omega
    · have e : k = rs.length := by omega
      subst e
      rw [List.take_length] at hus
      go_wp2
      go_ret
      refine ⟨_, rfl, ⟨us, hus, own_base hown HB2.out.size, fun x hx => (hfs x hx).below hbel⟩, HB2.out.trans (hbel.mono HB2.out.size)⟩
end Go.Proofs.Ytomkbgghljcbfaa
