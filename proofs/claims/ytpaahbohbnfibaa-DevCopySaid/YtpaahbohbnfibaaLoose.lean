/-
  The contract of the device's Loose: the sectors of the writes that are loose, in order, in new memory.
-/
import Derived.Test.YtpaahbohbnfibaaNew
namespace Go.Proofs.Ytpaahbohbnfibaa
open Go.RowKit Go.Rst Go.Dv

theorem made_new' (n : Nat) : (madeCells #[Value.int .i64 0] n).toList = (List.replicate n 0).map iv := by
  have := made_new n
  rw [Nat.mul_one] at this
  exact this
/-- A slice that reads as numbers. -/
def IS (w : World) (u : Value) (l : List Nat) : Prop :=
  ∃ A c, u = .slice A l.length c ∧ (l = [] ∨ ∃ b off, A = some ⟨b, off, none⟩ ∧ b < w.heap.size ∧ ∀ j (h : j < l.length), w.cell? ⟨b, off + j, none⟩ = some (iv l[j]))
theorem IS.below {w w' : World} {u : Value} {l : List Nat} (h : IS w u l) (hb : Below w.heap.size w w') : IS w' u l := by
  obtain ⟨A, c, rfl, h1⟩ := h
  refine ⟨A, c, rfl, ?_⟩
  rcases h1 with h1 | ⟨b, off, rfl, hb', hc⟩
  · exact .inl h1
  · exact .inr ⟨b, off, rfl, Nat.lt_of_lt_of_le hb' hb.size, fun j hj => (hb.cell (p := ⟨b, off + j, none⟩) hb').trans (hc j hj)⟩
/-- The first k writes' sectors; noughts behind them. -/
def lout (L : List Wr) (k : Nat) : List Nat := (List.range L.length).map fun j => if j < k then (wat L j).1 else 0
theorem lout_length (L : List Wr) (k : Nat) : (lout L k).length = L.length := by simp [lout]
theorem lout_zero (L : List Wr) : lout L 0 = List.replicate L.length 0 := by
  apply List.ext_getElem
  · simp [lout]
  · intro i h1 h2; simp [lout]
theorem lout_set (L : List Wr) (k : Nat) : (lout L k).set k (wat L k).1 = lout L (k + 1) := by
  apply List.ext_getElem
  · simp [lout]
  · intro i h1 h2
    by_cases h : k = i
    · subst h; simp [lout]
    · rw [List.getElem_set_ne h]
      simp only [lout, List.getElem_map, List.getElem_range]
      by_cases h3 : i < k
      · rw [if_pos h3, if_pos (by omega)]
      · rw [if_neg h3, if_neg (by omega)]
theorem lout_all (L : List Wr) : lout L L.length = L.map (·.1) := by
  apply List.ext_getElem
  · simp [lout]
  · intro i h1 h2
    have hi : i < L.length := by simpa using h2
    simp [lout, hi, wat_in hi]
theorem IS.own {w : World} {base g n c : Nat} {l : List Nat} (h : w.ownsRow base 3 1 (.slice (some ⟨g, 0, none⟩) n c) n (l.map iv)) (hl : n = l.length) : IS w (.slice (some ⟨g, 0, none⟩) n c) l := by
  subst hl
  refine ⟨_, c, rfl, .inr ⟨g, 0, rfl, (h.lt g rfl).2, fun j hj => ?_⟩⟩
  rw [Nat.zero_add, h.cellAt j (by omega), List.getElem?_map, List.getElem?_eq_getElem hj]
  rfl
set_option maxRecDepth 100000 in
set_option maxHeartbeats 1000000 in
theorem loose_any {D : Nat → Prop} {w : World} {v : Value} {s : Sim} (h : Dev D w v s) (hw : s.nw ≤ 100000) :
    Calls Try.prog 22 #[v] w fun e w' => ∃ u, e = .returned u ∧ IS w' u (s.loose.map (·.1)) ∧ NewS w u ∧ Below w.heap.size w w' := by
  obtain ⟨y, rfl, hr, hok, hf⟩ := h
  have c1 := hr.c1
  obtain ⟨L, hL⟩ : ∃ L, L = s.loose := ⟨_, rfl⟩
  rw [← hL] at c1
  have hLl : L.length ≤ 100000 := by rw [hL]; exact Nat.le_trans hok.w hw
  obtain ⟨i3, hi3, hz3, hs3, hb3⟩ := info_parts info3
  have HI3 := Lib.hid hi3
  have HZ3 := Lib.hid hz3
  have HS3 := Lib.hid hs3
  have HB3 := Lib.hid (show i3.bytes * L.length ≤ 281474976710656 by rw [hb3]; omega)
  have HM := Lib.hid (show L.length ≤ maxLen by unfold maxLen; omega)
  obtain ⟨Z, hZ⟩ : ∃ Z, Z = #[Value.int .i64 0] ++ Array.replicate 64 (Value.int .u8 0) := ⟨_, rfl⟩
  have z68 := zero68
  rw [← hZ] at z68
  have HZ := Lib.hid hZ
  have HR := Lib.hid hr
  have HO := Lib.hid hok
  have HL := Lib.hid hL
  clear hi3 hz3 hs3 hb3 hZ hr hok hf hL
  go_enter Try.func22, Try.ntmps22
  go_wp2_with (refine wpList_make_full _ rfl (.tmp 12) (.tmp 12) 52 rfl 0 3 i3 (.int .i64 0) 1 Try.underlying52 HI3.out HZ3.out HS3.out .i64 .i64 _ _ L.length rfl rfl rfl rfl HB3.out HM.out (Nat.zero_le _) ?_)
  intro w1 hown hgrow
  rw [made_new', ← lout_zero] at hown
  have hb1 : Below w.heap.size w w1 := (Below.refl _ _).grown hgrow (Nat.le_refl _) (fun k hk => by cases hk)
  have c1 := (HR.out.below hb1).c1
  rw [← HL.out] at c1
  obtain ⟨g1, hg1⟩ : ∃ g1, g1 = w.heap.size := ⟨_, rfl⟩
  rw [← hg1] at hown ⊢
  have HO1 := Lib.hid hown
  have HB1 := Lib.hid hb1
  have HG1 := Lib.hid hg1
  clear hown hgrow hb1 hg1
  go_wp2
  go_loopw [19] (fun i wr => ∃ k : Nat, k ≤ L.length ∧ i = .int .i64 k ∧ wr.ownsRow 0 3 1 (.slice (some ⟨g1, 0, none⟩) L.length L.length) L.length ((lout L k).map iv) ∧ Below w.heap.size w wr) (fun i _ => L.length - (intOf i).toNat)
  case atStart => exact ⟨0, Nat.zero_le _, rfl, HO1.out, HB1.out⟩
  case round =>
    obtain ⟨k, hk, rfl, hown, hbel⟩ := hrel
    clear c1
    by_cases hlt : k < L.length
    · have hr := HR.out.below hbel
      have hlt2 : k < s.loose.length := by rw [← HL.out]; exact hlt
      obtain ⟨gL, hA, hn1, hn2, hn3, hat⟩ := hr.looseAt (fun x hx => (HO.out.l x hx).2) hlt2
      have hx := HO.out.wat_ hlt2
      rw [← HL.out] at hat hx
      obtain ⟨x, hxe⟩ : ∃ x, x = wat L k := ⟨_, rfl⟩
      rw [← hxe] at hat hx
      have HX := Lib.hid hxe
      have HAt := Lib.hid hat
      have HXl := Lib.hid (show (Try.prog.info? 68).map (·.size) = some (wc x).length by rw [wc_length hx.2]; exact size68)
      have HCs := Lib.hid (show (Try.prog.info? 68).map (·.size) = some (wc x).toArray.size by rw [List.size_toArray, wc_length hx.2]; exact size68)
      have HZC := Lib.hid (show Z.size = (wc x).toArray.size by rw [HZ.out]; simp [wc_length hx.2])
      rw [hA]
      have hA2 := Lib.hid hA
      have hW : (wr.alloc (Obj.cells Z 68)).setRow wr.heap.size (wc x).toArray = wr.alloc (Obj.cells (wc x).toArray 68) := World.setRow_alloc_new _ _ _ _
      have hx0 : ((wr.alloc (Obj.cells Z 68)).setRow wr.heap.size (wc x).toArray).cell? ⟨wr.heap.size, 0, none⟩ = some (.int .i64 (x.1 : Int)) := by
        rw [hW, cell_of_row _ wr.heap.size 0 _ 68 (0, 0) (heap_alloc_new wr _)]; rfl
      have hown2 : ((wr.alloc (Obj.cells Z 68)).setRow wr.heap.size (wc x).toArray).ownsRow 0 3 1 (.slice (some ⟨g1, 0, none⟩) L.length L.length) L.length ((lout L k).map iv) := by
        rw [hW]; exact hown.alloc _
      have hlk : k < ((lout L k).map iv).length := by rw [List.length_map, lout_length]; exact hlt
      have hcw := hown2.cellAt k (by omega)
      rw [List.getElem?_eq_getElem hlk] at hcw
      have hfw := hown2.frozenAt k
      have hbel2 : Below w.heap.size w ((wr.alloc (Obj.cells Z 68)).setRow wr.heap.size (wc x).toArray) := by
        rw [hW]; exact hbel.alloc hbel.size _
      generalize ((lout L k).map iv)[k] = q0 at hcw
      have HW2 := Lib.hid hown2
      have HBl := Lib.hid hbel2
      clear hr hat hx hxe hA hW hown2 hbel2 hown hbel hlk hlt2
      go_wp2_with (first
        | (refine wpList_load_mid rfl 68 (.tmp 22) rfl gL (k * 65) rfl (wc x) _ HAt.out Try.underlying68 rfl HXl.out ?_)
        | (refine wpList_store_row rfl 68 (.tmp 5) (.tmp 23) rfl wr.heap.size (wc x).toArray rfl rfl 68 Z (heap_alloc_new wr _) HCs.out HZC.out (wc_all x) ?_))
      go_roundw
      case rel =>
        refine ⟨k + 1, by omega, by go_num, ?_, HBl.out.setCell (by rw [HG1.out]; exact Nat.le_refl _) _⟩
        have := (HW2.out.stored k (iv x.1)).1
        rw [← List.map_set, HX.out, lout_set] at this
        rw [HX.out]
        exact this
      case measure => simp [intOf]; omega
    · obtain rfl : k = L.length := by omega
      rw [lout_all] at hown
      have HOw := Lib.hid hown
      have HBl := Lib.hid hbel
      clear hown hbel z68
      go_wp2
      go_ret
      rw [← HL.out]
      exact ⟨_, rfl, IS.own HOw.out (by rw [List.length_map]), fun j hj => by rw [← HG1.out]; simp [Value.ownBlock] at hj; omega, HBl.out⟩
end Go.Proofs.Ytpaahbohbnfibaa
