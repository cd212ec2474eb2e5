/-
  The contract of the device's Read: a sector's bytes as they were written last, in new memory; an error where there is no such sector.
-/
import Derived.Test.YtpaahbohbnfibaaForget
namespace Go.Proofs.Ytpaahbohbnfibaa
open Go.RowKit Go.Rst Go.Dv

/-- New memory. -/
def NewS (w : World) (u : Value) : Prop := ∀ k, u.ownBlock = some k → w.heap.size ≤ k
theorem RB.fr {D : Nat → Prop} {w w' : World} {u : Value} {l : List UInt8} (h : RB w u l) (hf : Fr D w w') (hn : l ≠ [] → ∀ k, u.ownBlock = some k → ¬ D k) : RB w' u l := by
  obtain ⟨A, c, rfl, h1, h2, h3⟩ := h
  refine ⟨A, c, rfl, h1, h2, ?_⟩
  by_cases hl : l = []
  · exact .inl hl
  rcases h3 with h3 | ⟨b, off, rfl, hb, hc⟩
  · exact .inl h3
  · have e := hf.block b hb (hn hl b rfl)
    exact .inr ⟨b, off, rfl, Nat.lt_of_lt_of_le hb hf.size, fun j hj => (World.cell?_of_block (a := ⟨b, off + j, none⟩) e).trans (hc j hj)⟩
theorem RB.blk {w : World} {g : Nat} {t : TypeId} {l : List UInt8} (h : Blk w g t (bvs l).toArray) (hl : l.length ≤ 100000) : RB w (.slice (some ⟨g, 0, none⟩) l.length l.length) l := by
  refine ⟨some ⟨g, 0, none⟩, l.length, rfl, Nat.le_refl _, by unfold maxLen; omega, .inr ⟨g, 0, rfl, h.lt, fun j hj => ?_⟩⟩
  rw [Nat.zero_add, h.cell, List.getElem?_toArray, bvs_get hj]
/-- What Read tells of a sector. -/
def Told (w : World) (l : List UInt8) (e : Ending) (w' : World) : Prop := ∃ u, e = .returned (.tuple #[u, .int .u16 0]) ∧ RB w' u l ∧ NewS w u ∧ Below w.heap.size w w'
theorem Told.mk {w w' : World} {l : List UInt8} {g : Nat} (h : Blk w' g 66 (bvs l).toArray) (hl : l.length = 64) (hg : w.heap.size ≤ g) (hb : Below w.heap.size w w') : Told w l (.returned (.tuple #[.slice (some ⟨g, 0, none⟩) 64 64, .int .u16 0])) w' := by
  have := RB.blk h (by omega)
  rw [hl] at this
  exact ⟨_, rfl, this, fun k hk => by simp [Value.ownBlock] at hk; omega, hb⟩
set_option maxRecDepth 100000 in
set_option maxHeartbeats 400000 in
theorem read_no {D : Nat → Prop} {w : World} {v : Value} {s : Sim} (i : Int) (h : Dev D w v s) (hi : s.has i = false) :
    Calls Try.prog 15 #[v, .int .i64 i] w fun e w' => e = .returned (.tuple #[.slice none 0 0, .int .u16 20]) ∧ w = w' := by
  have H := Lib.hid h
  have HI := Lib.hid hi
  clear h hi
  go_enter Try.func15, Try.ntmps15
  go_wp2_with fail
  go_at_call 26
  refine (has_any i H.out).mono ?_
  rintro e w' ⟨rfl, rfl⟩
  rw [HI.out]
  go_wp2
  go_ret2
  exact ⟨rfl, rfl⟩
set_option maxRecDepth 100000 in
set_option maxHeartbeats 1000000 in
theorem read_any {D : Nat → Prop} {w : World} {v : Value} {s : Sim} (k : Nat) (h : Dev D w v s) (hi : k < s.firm.length) (hw : s.nw ≤ 100000) :
    Calls Try.prog 15 #[v, .int .i64 (k : Int)] w (Told w (s.read k)) := by
  have H := Lib.hid h
  have hhas : s.has k = true := Sim.has_iff.2 ⟨by omega, by omega⟩
  have HI := Lib.hid hhas
  obtain ⟨y, rfl, hr, hok, _⟩ := h
  have c0 := hr.c0
  have hFk := hok.firm_ hi
  have hat := hr.firmAt hok.f hi
  obtain ⟨d, hd⟩ : ∃ d, d = s.firm.getD k [] := ⟨_, rfl⟩
  rw [← hd] at hFk hat
  obtain ⟨Z, hZ⟩ : ∃ Z, Z = Array.replicate 64 (Value.int .u8 0) := ⟨_, rfl⟩
  have z66 := zero66
  rw [← hZ] at z66
  have HZ := Lib.hid hZ
  have HD := Lib.hid hd
  have HAt := Lib.hid hat
  have HR := Lib.hid hr
  have HO := Lib.hid hok
  have HFk := Lib.hid hFk
  have HXl := Lib.hid (show (Try.prog.info? 66).map (·.size) = some (bvs d).length by rw [bvs_length, hFk]; exact size66)
  have HCs := Lib.hid (show (Try.prog.info? 66).map (·.size) = some (bvs d).toArray.size by rw [List.size_toArray, bvs_length, hFk]; exact size66)
  have HZC := Lib.hid (show Z.size = (bvs d).toArray.size by rw [hZ]; simp [bvs_length, hFk])
  obtain ⟨q, hq⟩ : ∃ q, q = upTo s.loose k s.loose.length := ⟨_, rfl⟩
  have hr2 : Raw D ((w.alloc (Obj.cells Z 66)).setRow w.heap.size (bvs d).toArray) y s.firm s.loose (newL s.firm.length s.loose) s.fuse.isSome s.nw s.nf := by rw [World.setRow_alloc_new]; exact hr.alloc _
  have hb2 : Blk ((w.alloc (Obj.cells Z 66)).setRow w.heap.size (bvs d).toArray) w.heap.size 66 (bvs d).toArray := by rw [World.setRow_alloc_new]; exact heap_alloc_new w _
  have hbel : Below w.heap.size w ((w.alloc (Obj.cells Z 66)).setRow w.heap.size (bvs d).toArray) := by rw [World.setRow_alloc_new]; exact (Below.refl _ _).alloc (Nat.le_refl _) _
  have c2 := hr2.c2
  have hn := hr2.newAt (newL_get (L := s.loose) hi)
  rw [← hq] at hn
  have hnl : (newL s.firm.length s.loose).length = s.firm.length := newL_length _ _
  rw [hnl] at c2
  have HB2 := Lib.hid hb2
  have HBel := Lib.hid hbel
  have hk0 : (0 : Int) ≤ (k : Int) := by omega
  have hk1 : (k : Int) < (s.firm.length : Int) := by omega
  cases q with
  | zero =>
    have hn' : ((w.alloc (Obj.cells Z 66)).setRow w.heap.size (bvs d).toArray).cell? ⟨y.gN, k, none⟩ = some (.int .i64 0) := hn
    have HE := Lib.hid (show s.read k = d by unfold Sim.read; rw [← hq, if_pos rfl, hd])
    clear hr hok hFk hat hd hZ hq hr2 hb2 hbel hn hnl hhas
    rw [HE.out]
    go_enter Try.func15, Try.ntmps15
    go_wp2_with fail
    go_at_call 26
    refine (has_any _ H.out).mono ?_
    rintro e w' ⟨rfl, rfl⟩
    rw [HI.out]
    go_wp2_with (first
      | (refine wpList_load_mid rfl 66 (.tmp 17) rfl y.gF (k * 64) rfl (bvs d) _ HAt.out Try.underlying66 rfl HXl.out ?_)
      | (refine wpList_store_row rfl 66 (.tmp 6) (.tmp 18) rfl w.heap.size (bvs d).toArray rfl rfl 66 Z (heap_alloc_new w _) HCs.out HZC.out (bvs_all d) ?_))
    go_ret2
    exact Told.mk HB2.out HFk.out (Nat.le_refl _) HBel.out
  | succ n =>
    have hn' : ((w.alloc (Obj.cells Z 66)).setRow w.heap.size (bvs d).toArray).cell? ⟨y.gN, k, none⟩ = some (.int .i64 ((n : Int) + 1)) := hn
    have hle := upTo_le s.loose k s.loose.length
    rw [← hq] at hle
    have hnL : n < s.loose.length := by omega
    have hLw := hok.w
    obtain ⟨gL, hA, hn1, hn2, hn3, hat2⟩ := hr2.looseAt (fun x hx => (hok.l x hx).2) hnL
    have hx := hok.wat_ hnL
    obtain ⟨x, hxe⟩ : ∃ x, x = wat s.loose n := ⟨_, rfl⟩
    rw [← hxe] at hat2 hx
    have HE := Lib.hid (show s.read k = x.2 by unfold Sim.read; rw [← hq, if_neg (by omega), hxe]; rfl)
    have hx1 : ((w.alloc (Obj.cells Z 66)).setRow w.heap.size (bvs d).toArray).rangeAt gL (n * 65 + 1) (bvs x.2) := fun j v hv => by
      have := hat2 (j + 1) v (by exact hv)
      rw [Nat.add_assoc, Nat.add_comm 1 j]; exact this
    have c1 := hr2.c1
    rw [hA] at c1
    have HX1 := Lib.hid hx1
    have HXx := Lib.hid hx
    have HS := Lib.hid (show (Try.prog.info? 66).map (·.size) = some (bvs x.2).length by rw [bvs_length, hx.2]; exact size66)
    have HSa := Lib.hid (show (Try.prog.info? 66).map (·.size) = some (bvs x.2).toArray.size by rw [List.size_toArray, bvs_length, hx.2]; exact size66)
    have HDX := Lib.hid (show (bvs d).toArray.size = (bvs x.2).toArray.size by simp [bvs_length, hFk, hx.2])
    have hnm : (n : Int) ≤ 100000 := by omega
    clear hr hok hFk hat hd hZ hq hr2 hb2 hbel hn hnl hhas hle hat2 hx hxe hx1 hA hLw
    rw [HE.out]
    go_enter Try.func15, Try.ntmps15
    go_wp2_with fail
    go_at_call 26
    refine (has_any _ H.out).mono ?_
    rintro e w' ⟨rfl, rfl⟩
    rw [HI.out]
    go_wp2_with (first
      | (refine wpList_load_mid rfl 66 (.tmp 17) rfl y.gF (k * 64) rfl (bvs d) _ HAt.out Try.underlying66 rfl HXl.out ?_)
      | (refine wpList_store_row rfl 66 (.tmp 6) (.tmp 18) rfl w.heap.size (bvs d).toArray rfl rfl 66 Z (heap_alloc_new w _) HCs.out HZC.out (bvs_all d) ?_)
      | (refine wpList_load_mid rfl 66 (.tmp 35) rfl gL (n * 65 + 1) rfl (bvs x.2) _ HX1.out Try.underlying66 rfl HS.out ?_)
      | (refine wpList_store_row rfl 66 (.tmp 6) (.tmp 36) rfl w.heap.size (bvs x.2).toArray rfl rfl 66 (bvs d).toArray HB2.out HSa.out HDX.out (bvs_all x.2) ?_))
    go_ret2
    exact Told.mk (setRow_heap _ _ _ _ _ _ HB2.out) HXx.out.2 (Nat.le_refl _) (HBel.out.trans ⟨rfl, rfl, rfl, by simp, fun j hj => setRow_other _ _ j _ (by omega)⟩)
end Go.Proofs.Ytpaahbohbnfibaa
