/-
 The contract of dev.New: a device of noughts, of new blocks; nil, where there may not be so many sectors.; How the document's own device reads, outside given blocks; and the contracts of its Burn and Fuse. No condition beyond those that each theorem states.
-/
import Derived.OwnWalk
import Derived.Deep.AppendSrc
import Derived.Test.YtmbkaedhllfoeaaKVD
import Derived.Test.YtmbkaedhllfoeaaKVCB
set_option linter.unusedVariables false
namespace Go.Proofs.Ytmbkaedhllfoeaa
open Go.RowKit Go.Rst Go.Dv
theorem step_make {P : Program} {w : World} {ops : Array Oper} {o : Oper} {a : Act} {K : Act → World → Prop} {Q : Exit → Act → World → Prop} {E : Prop} (hgd : o.guard = none) (l c : Operand) (t : TypeId) (hop : o.op = Op.makeSlice t l c)
  (base : Nat) (e : TypeId) (i : TypeInfo) (z : Value) (size : Nat) (h1 : P.underlying t = some (.slice e)) (h2 : P.info? e = some i) (h3 : i.zero = some z) (h4 : i.size = size)
  (kl kc : IntKind) (L C : Int) (n : Nat) (hl : a.eval l = .int kl L) (hc : a.eval c = .int kc C) (hL : L = (n : Int)) (hC : C = (n : Int)) (b2 : i.bytes * n ≤ 281474976710656) (b3 : n ≤ maxLen) (b4 : base ≤ w.heap.size)
  (hK : ∀ w', w'.ownsRow base e size (.slice (some ⟨w.heap.size, 0, none⟩) n n) n (madeCells z.cells (n * size)).toList → w.grownBy w' none → K (a.put o.dst (.slice (some ⟨w.heap.size, 0, none⟩) n n)) w') :
  if Region.wanted o (yielded ops a.tmps) = true then Oper.wp P o a w K Q else E := by
 have hw : Region.wanted o (yielded ops a.tmps) = true := by simp [Region.wanted, hgd]
 rw [if_pos hw]
 obtain ⟨w', hrun, r1, r2⟩ := run_make_full (P := P) w base t e i z size h1 h2 h3 h4 kl kc n b2 b3 b4
 subst hL
 subst hC
 unfold Oper.wp
 simp [execOp, hop, hl, hc, hrun, Result.andThen]
 exact hK w' r1 r2
theorem gen_alloc {K : World → Prop} {W : World} {o : Obj} (h : ∀ w', w' = W.alloc o → Below W.heap.size W w' → K w') : K (W.alloc o) := h _ rfl ((Below.refl _ _).alloc (Nat.le_refl _) _)
theorem gen_allocD {K : World → Prop} {W : World} {o : Obj} (h : ∀ w', w' = (W.alloc o).drew → Below W.heap.size W w' → K w') : K (W.alloc o).drew := h _ rfl ((Below.refl _ _).alloc (Nat.le_refl _) _).drew
theorem made_firm (n : Nat) : (madeCells (Value.agg (Array.replicate 64 (.int .u8 0))).cells (n * 64)).toList = fcs (List.replicate n (List.replicate 64 0)) := by
 have hall : ∀ x ∈ List.replicate n (List.replicate 64 (0 : UInt8)), x.length = 64 := fun x hx => by rw [List.eq_of_mem_replicate hx]; simp
 apply List.ext_getElem
 ·rw [Array.length_toList, size_madeCells, fcs_length hall]; simp
 ·intro j h1 h2
  have hj : j < n * 64 := by rw [Array.length_toList, size_madeCells] at h1; exact h1
  have hb : bvs (List.replicate 64 (0 : UInt8)) = List.replicate 64 (bv 0) := by unfold bvs; rw [List.map_replicate]
  have e := fcs_get hall (i := j / 64) (j := j % 64) (by rw [List.length_replicate]; omega) (Nat.mod_lt _ (by decide))
  rw [show j / 64 * 64 + j % 64 = j from by omega, List.getElem?_eq_getElem h2, List.getElem_replicate, hb, List.getElem?_replicate, if_pos (Nat.mod_lt _ (by decide))] at e
  injection e with e
  rw [e]
  have hz : (Array.replicate 64 (Value.int .u8 0)).size = 64 := by simp
  have hm : j % 64 < 64 := Nat.mod_lt _ (by decide)
  simp only [madeCells, Value.cells, Array.toList_map, List.getElem_map, Array.getElem_toList, Array.getElem_range, hz]
  rw [getElem!_pos _ _ (by rw [hz]; exact hm), Array.getElem_replicate]
  rfl
theorem made_new (n : Nat) : (madeCells (Value.int .i64 0).cells (n * 1)).toList = (List.replicate n 0).map iv := by
 rw [Nat.mul_one]
 have := toList_madeCells_one (.int .i64 0) n
 simpa [iv, Value.cells] using this
theorem new_mk {w w4 : World} {n g gF gN : Nat} (hn : n ≤ 4096) (hF : w4.ownsRow 0 88 64 (.slice (some ⟨gF, 0, none⟩) n n) n (madeCells (Value.agg (Array.replicate 64 (.int .u8 0))).cells (n * 64)).toList)
  (hN : w4.ownsRow 0 3 1 (.slice (some ⟨gN, 0, none⟩) n n) n (madeCells (Value.int .i64 0).cells (n * 1)).toList)
  (hb : Blk w4 g 53 #[.slice (some ⟨gF, 0, none⟩) n n, .slice none 0 0, .slice (some ⟨gN, 0, none⟩) n n, .bool false, .int .i64 0, .complex .f64 0 0])
  (b1 : w.heap.size ≤ gF ∧ gF < w4.heap.size) (b2 : w.heap.size ≤ gN ∧ gN < w4.heap.size) (b3 : w.heap.size ≤ g) (n1 : g ≠ gF) (n2 : g ≠ gN) (n3 : gF ≠ gN) (hs : w.heap.size ≤ w4.heap.size) :
  Own w.heap.size w4 (.pointer (some ⟨g, 0, none⟩)) (Sim.new n) := by
 rw [made_firm] at hF
 rw [made_new] at hN
 refine ⟨fun k => k = g ∨ k = gF ∨ k = gN, ⟨⟨g, gF, gN, n, n, none, 0, 0⟩, rfl, ⟨?_, ?_, World.ownsRow_nil _ _ _ _, ?_, .inl rfl, .inr (.inl rfl), .inr (.inr rfl), fun p hp => (by cases hp), fun k hk => ?_, n1, n2, n3, fun p hp => (by cases hp)⟩, OK.new hn, fun k hk => (by cases hk)⟩, fun k hk => ?_, hs⟩
 ·have e : (dcs ⟨g, gF, gN, n, n, none, 0, 0⟩ (Sim.new n).firm.length (Sim.new n).loose.length (newL (Sim.new n).firm.length (Sim.new n).loose).length (Sim.new n).fuse.isSome (Sim.new n).nw (Sim.new n).nf) = #[.slice (some ⟨gF, 0, none⟩) n n, .slice none 0 0, .slice (some ⟨gN, 0, none⟩) n n, .bool false, .int .i64 0, .complex .f64 0 0] := by
   simp only [dcs, newL_length]
   have e1 : (Sim.new n).firm.length = n := by simp [Sim.new]
   rw [e1]
   have e2 : (Sim.new n).nw = 0 := rfl
   have e3 : (Sim.new n).nf = 0 := rfl
   rw [e2, e3]
   rfl
  rw [e]
  exact hb
 ·have e1 : (Sim.new n).firm.length = n := by simp [Sim.new]
  rw [e1]
  exact hF
 ·have e1 : (Sim.new n).firm.length = n := by simp [Sim.new]
  have e2 : (Sim.new n).loose = [] := rfl
  rw [e1, e2, newL_nil, List.length_replicate]
  exact hN
 ·rcases hk with rfl | rfl | rfl
  ·exact hb.lt
  ·exact b1.2
  ·exact b2.2
 ·rcases hk with rfl | rfl | rfl
  ·exact b3
  ·exact b1.1
  ·exact b2.1
theorem own_grownD {w w' : World} {base : Nat} {e : TypeId} {size : Nat} {v : Value} {n : Nat} {xs : List Value} (h : w.ownsRow base e size v n xs) (hg : w.grownBy w' none) : w'.ownsRow base e size v n xs :=
 own_same h (fun k hk => hg.block k (h.lt k hk).2 (by simp))
set_option maxRecDepth 100000 in
set_option maxHeartbeats 1000000 in
theorem new_any (n : Nat) (w : World) (h : n ≤ 4096) :
  Calls Try.prog 6 #[.int .i64 (n : Int)] w fun e w' => ∃ v, e = .returned v ∧ Own w.heap.size w' v (Sim.new n) ∧ Below w.heap.size w w' := by
 obtain ⟨i66, hi66, hz66, hs66, hb66⟩ := info_parts info88
 obtain ⟨i3, hi3, hz3, hs3, hb3⟩ := info_parts info3
 have HI66 := Lib.hid hi66
 have HZ66 := Lib.hid hz66
 have HS66 := Lib.hid hs66
 have HI3 := Lib.hid hi3
 have HZ3 := Lib.hid hz3
 have HS3 := Lib.hid hs3
 have HB66 := Lib.hid (show i66.bytes * n ≤ 281474976710656 by rw [hb66]; omega)
 have HB3 := Lib.hid (show i3.bytes * n ≤ 281474976710656 by rw [hb3]; omega)
 have HM := Lib.hid (show n ≤ maxLen by unfold maxLen; omega)
 clear hi66 hz66 hs66 hb66 hi3 hz3 hs3 hb3
 have h0 : (n : Int) ≤ 4096 := by omega
 have h1 : (0 : Int) ≤ (n : Int) := by omega
 go_enter Try.func6, Try.ntmps6
 go_wp2
 refine wp_region_held_drew (S := fun X => Below w.heap.size w X) (by kernel_rfl) (Below.refl _ _).drew (fun hHeld => ?_)
 refine wpAnyH_take (i := 0) (oi := { dst := some 9, op := Op.move (Operand.tmp 0), type := 3, pos := "dev.go:34", after := #[], guard := none }) (v := ?_) rfl (by kernel_rfl) (by kernel_rfl) (by kernel_rfl) (fun _ _ _ h => h) (Or.inl ⟨by rfl, ?_⟩) (by assumption) ?_
 rotate_left
 ·intro X hSw; go_simp; try (with_reducible rfl)
 try simp only [Act.put, List.setIfInBounds_toArray, List.set_cons_zero, List.set_cons_succ]
 refine wpAnyH_take (i := 2) (oi := { dst := some 11, op := Op.move (Operand.tmp 0), type := 3, pos := "dev.go:34", after := #[], guard := none }) (v := ?_) rfl (by kernel_rfl) (by kernel_rfl) (by kernel_rfl) (fun _ _ _ h => h) (Or.inl ⟨by rfl, ?_⟩) (by assumption) ?_
 rotate_left
 ·intro X hSw; go_simp; try (with_reducible rfl)
 try simp only [Act.put, List.setIfInBounds_toArray, List.set_cons_zero, List.set_cons_succ]
 refine wpAnyH_ready (rs := [1, 3]) (by kernel_rfl) (by simp) ?_
 refine AllReadyH.cons (o := { dst := some 10, op := Op.makeSlice 48 (Operand.tmp 9) (Operand.tmp 9), type := 48, pos := "dev.go:34", after := #[{ on := 0, ground := Ground.data }, { on := 0, ground := Ground.data }], guard := none }) rfl (fun K hK => ?_) (AllReadyH.cons (o := { dst := some 12, op := Op.makeSlice 49 (Operand.tmp 11) (Operand.tmp 11), type := 49, pos := "dev.go:34", after := #[{ on := 2, ground := Ground.data }, { on := 2, ground := Ground.data }], guard := none }) rfl (fun K hK => ?_) AllReadyH.nil)
 ·refine step_make (by rfl) (.tmp 9) (.tmp 9) 48 (by rfl) 0 88 i66 (.agg (Array.replicate 64 (.int .u8 0))) 64 Try.underlying48 HI66.out HZ66.out HS66.out .i64 .i64 _ _ n (by rfl) (by rfl) rfl rfl HB66.out HM.out (Nat.zero_le _) ?_
  intro wF hownF hgrowF
  have hHeld' := hHeld.grown hgrowF (hHeld.size) (fun k hk => by cases hk)
  refine hK.out _ _ ?_ (fun _ => ?_)
  ·exact hHeld'
  clear hK K hHeld
  have hHeld := hHeld'
  clear hHeld'
  try simp only [Act.put, List.setIfInBounds_toArray, List.set_cons_zero, List.set_cons_succ]
  refine wpAnyH_ready (rs := [3]) (by kernel_rfl) (by simp) ?_
  refine AllReadyH.cons (o := { dst := some 12, op := Op.makeSlice 49 (Operand.tmp 11) (Operand.tmp 11), type := 49, pos := "dev.go:34", after := #[{ on := 2, ground := Ground.data }, { on := 2, ground := Ground.data }], guard := none }) rfl (fun K hK => ?_) AllReadyH.nil
  refine step_make (by rfl) (.tmp 11) (.tmp 11) 49 (by rfl) 0 3 i3 (.int .i64 0) 1 Try.underlying49 HI3.out HZ3.out HS3.out .i64 .i64 _ _ n (by rfl) (by rfl) rfl rfl HB3.out HM.out (Nat.zero_le _) ?_
  intro wN hownN hgrowN
  have hHeld' := hHeld.grown hgrowN (hHeld.size) (fun k hk => by cases hk)
  refine hK.out _ _ ?_ (fun _ => ?_)
  ·exact hHeld'
  clear hK K hHeld
  have hHeld := hHeld'
  clear hHeld'
  try simp only [Act.put, List.setIfInBounds_toArray, List.set_cons_zero, List.set_cons_succ]
  refine wpAnyH_take (i := 4) (oi := { dst := some 13, op := Op.build 53 #[(0, Operand.tmp 10), (2, Operand.tmp 12)], type := 53, pos := "dev.go:34", after := #[{ on := 1, ground := Ground.data }, { on := 3, ground := Ground.data }], guard := none }) (v := ?_) rfl (by kernel_rfl) (by kernel_rfl) (by kernel_rfl) (fun _ _ _ h => h) (Or.inl ⟨by rfl, ?_⟩) (by assumption) ?_
  rotate_left
  ·intro X hSw; go_simp; try (with_reducible rfl)
  try simp only [Act.put, List.setIfInBounds_toArray, List.set_cons_zero, List.set_cons_succ]
  refine wpAnyH_ready (rs := [5]) (by kernel_rfl) (by simp) ?_
  refine AllReadyH.cons (o := { dst := some 14, op := Op.box 53 (Operand.tmp 13), type := 23, pos := "dev.go:34", after := #[{ on := 4, ground := Ground.data }], guard := none }) rfl (fun K hK => ?_) AllReadyH.nil
  go_simp
  refine gen_alloc ?_
  intro w4 hw4 hbw4
  try (go_wp2_with fail)
  have hHeld' := hHeld.trans (hbw4.mono hHeld.size)
  refine hK.out _ _ ?_ (fun _ => ?_)
  ·exact hHeld'
  clear hK K hHeld
  have hHeld := hHeld'
  clear hHeld'
  try simp only [Act.put, List.setIfInBounds_toArray, List.set_cons_zero, List.set_cons_succ]
  refine wpAnyH_take (i := 6) (oi := { dst := some 2, op := Op.assign (Operand.tmp 14), type := 23, pos := "dev.go:34", after := #[{ on := 5, ground := Ground.data }, { on := 0, ground := Ground.phase }, { on := 1, ground := Ground.phase }, { on := 2, ground := Ground.phase }, { on := 3, ground := Ground.phase }, { on := 4, ground := Ground.phase }, { on := 5, ground := Ground.phase }], guard := none }) (v := ?_) rfl (by kernel_rfl) (by kernel_rfl) (by kernel_rfl) (fun _ _ _ h => h) (Or.inl ⟨by rfl, ?_⟩) (by assumption) ?_
  rotate_left
  ·intro X hSw; go_simp; try (with_reducible rfl)
  try simp only [Act.put, List.setIfInBounds_toArray, List.set_cons_zero, List.set_cons_succ]
  refine wpAnyH_done (by kernel_rfl) ?_ _
  have HH := Lib.hid hHeld
  have HOF := Lib.hid hownF
  have HON := Lib.hid hownN
  have HGF := Lib.hid hgrowF
  have HGN := Lib.hid hgrowN
  have HW4 := Lib.hid hw4
  clear hHeld hownF hownN hgrowF hgrowN hw4 hbw4
  go_wp2
  go_ret
  have hs1 := HGF.out.size
  have hs2 := HGN.out.size
  have l1 : w.heap.size < wF.heap.size := (HOF.out.lt _ rfl).2
  have l2 : wF.heap.size < wN.heap.size := (HON.out.lt _ rfl).2
  have hd : w.drew.heap.size = w.heap.size := rfl
  have e4 : w4.heap.size = wN.heap.size + 1 := by rw [HW4.out]; simp
  exact ⟨_, rfl, new_mk (w := w) h (by rw [HW4.out]; exact (own_grownD HOF.out HGN.out).alloc _) (by rw [HW4.out]; exact HON.out.alloc _) (by rw [HW4.out]; exact heap_alloc_new wN _) ⟨Nat.le_refl _, by rw [e4]; omega⟩ ⟨by omega, by rw [e4]; omega⟩ (by omega) (by omega) (by omega) (by omega) (by rw [e4]; omega), HH.out⟩
 ·refine step_make (by rfl) (.tmp 11) (.tmp 11) 49 (by rfl) 0 3 i3 (.int .i64 0) 1 Try.underlying49 HI3.out HZ3.out HS3.out .i64 .i64 _ _ n (by rfl) (by rfl) rfl rfl HB3.out HM.out (Nat.zero_le _) ?_
  intro wN hownN hgrowN
  have hHeld' := hHeld.grown hgrowN (hHeld.size) (fun k hk => by cases hk)
  refine hK.out _ _ ?_ (fun _ => ?_)
  ·exact hHeld'
  clear hK K hHeld
  have hHeld := hHeld'
  clear hHeld'
  try simp only [Act.put, List.setIfInBounds_toArray, List.set_cons_zero, List.set_cons_succ]
  refine wpAnyH_ready (rs := [1]) (by kernel_rfl) (by simp) ?_
  refine AllReadyH.cons (o := { dst := some 10, op := Op.makeSlice 48 (Operand.tmp 9) (Operand.tmp 9), type := 48, pos := "dev.go:34", after := #[{ on := 0, ground := Ground.data }, { on := 0, ground := Ground.data }], guard := none }) rfl (fun K hK => ?_) AllReadyH.nil
  refine step_make (by rfl) (.tmp 9) (.tmp 9) 48 (by rfl) 0 88 i66 (.agg (Array.replicate 64 (.int .u8 0))) 64 Try.underlying48 HI66.out HZ66.out HS66.out .i64 .i64 _ _ n (by rfl) (by rfl) rfl rfl HB66.out HM.out (Nat.zero_le _) ?_
  intro wF hownF hgrowF
  have hHeld' := hHeld.grown hgrowF (hHeld.size) (fun k hk => by cases hk)
  refine hK.out _ _ ?_ (fun _ => ?_)
  ·exact hHeld'
  clear hK K hHeld
  have hHeld := hHeld'
  clear hHeld'
  try simp only [Act.put, List.setIfInBounds_toArray, List.set_cons_zero, List.set_cons_succ]
  refine wpAnyH_take (i := 4) (oi := { dst := some 13, op := Op.build 53 #[(0, Operand.tmp 10), (2, Operand.tmp 12)], type := 53, pos := "dev.go:34", after := #[{ on := 1, ground := Ground.data }, { on := 3, ground := Ground.data }], guard := none }) (v := ?_) rfl (by kernel_rfl) (by kernel_rfl) (by kernel_rfl) (fun _ _ _ h => h) (Or.inl ⟨by rfl, ?_⟩) (by assumption) ?_
  rotate_left
  ·intro X hSw; go_simp; try (with_reducible rfl)
  try simp only [Act.put, List.setIfInBounds_toArray, List.set_cons_zero, List.set_cons_succ]
  refine wpAnyH_ready (rs := [5]) (by kernel_rfl) (by simp) ?_
  refine AllReadyH.cons (o := { dst := some 14, op := Op.box 53 (Operand.tmp 13), type := 23, pos := "dev.go:34", after := #[{ on := 4, ground := Ground.data }], guard := none }) rfl (fun K hK => ?_) AllReadyH.nil
  go_simp
  refine gen_alloc ?_
  intro w4 hw4 hbw4
  try (go_wp2_with fail)
  have hHeld' := hHeld.trans (hbw4.mono hHeld.size)
  refine hK.out _ _ ?_ (fun _ => ?_)
  ·exact hHeld'
  clear hK K hHeld
  have hHeld := hHeld'
  clear hHeld'
  try simp only [Act.put, List.setIfInBounds_toArray, List.set_cons_zero, List.set_cons_succ]
  refine wpAnyH_take (i := 6) (oi := { dst := some 2, op := Op.assign (Operand.tmp 14), type := 23, pos := "dev.go:34", after := #[{ on := 5, ground := Ground.data }, { on := 0, ground := Ground.phase }, { on := 1, ground := Ground.phase }, { on := 2, ground := Ground.phase }, { on := 3, ground := Ground.phase }, { on := 4, ground := Ground.phase }, { on := 5, ground := Ground.phase }], guard := none }) (v := ?_) rfl (by kernel_rfl) (by kernel_rfl) (by kernel_rfl) (fun _ _ _ h => h) (Or.inl ⟨by rfl, ?_⟩) (by assumption) ?_
  rotate_left
  ·intro X hSw; go_simp; try (with_reducible rfl)
  try simp only [Act.put, List.setIfInBounds_toArray, List.set_cons_zero, List.set_cons_succ]
  refine wpAnyH_done (by kernel_rfl) ?_ _
  have HH := Lib.hid hHeld
  have HOF := Lib.hid hownF
  have HON := Lib.hid hownN
  have HGF := Lib.hid hgrowF
  have HGN := Lib.hid hgrowN
  have HW4 := Lib.hid hw4
  clear hHeld hownF hownN hgrowF hgrowN hw4 hbw4
  go_wp2
  go_ret
  have hs1 := HGF.out.size
  have hs2 := HGN.out.size
  have l1 : wN.heap.size < wF.heap.size := (HOF.out.lt _ rfl).2
  have l2 : w.heap.size < wN.heap.size := (HON.out.lt _ rfl).2
  have hd : w.drew.heap.size = w.heap.size := rfl
  have e4 : w4.heap.size = wF.heap.size + 1 := by rw [HW4.out]; simp
  exact ⟨_, rfl, new_mk (w := w) h (by rw [HW4.out]; exact HOF.out.alloc _) (by rw [HW4.out]; exact (own_grownD HON.out HGF.out).alloc _) (by rw [HW4.out]; exact heap_alloc_new wF _) ⟨by omega, by rw [e4]; omega⟩ ⟨Nat.le_refl _, by rw [e4]; omega⟩ (by omega) (by omega) (by omega) (by omega) (by rw [e4]; omega), HH.out⟩
end Go.Proofs.Ytmbkaedhllfoeaa
namespace Go.Proofs.Ytmbkaedhllfoeaa
open Go.RowKit Go.Rst Go.Dv
section
variable {A A' D : Nat → Prop} {w w' : World} {u v : Value} {l : List UInt8}
theorem RB.lt_ {k : Nat} (h : RB w u l) (hl : l ≠ []) (hk : u.ownBlock = some k) : k < w.heap.size := by
 obtain ⟨a, c, rfl, _, _, h3⟩ := h
 rcases h3 with h3 | ⟨b, off, rfl, hb, _⟩
 ·exact absurd h3 hl
 ·have : b = k := by simpa [Value.ownBlock] using hk
  omega
def RAd (A : Nat → Prop) (w : World) (u : Value) (l : List UInt8) : Prop := RB w u l ∧ (l ≠ [] → ∀ k, u.ownBlock = some k → ¬ A k)
theorem RAd.fr (h : RAd A w u l) (hf : Fr D w w') (hD : ∀ k, D k → A k) (hA : ∀ k, A' k → A k ∨ w.heap.size ≤ k) : RAd A' w' u l :=
 ⟨RB.fr h.1 hf (fun hl k hk hd => h.2 hl k hk (hD k hd)), fun hl k hk ha => by
  rcases hA k ha with h1 | h1
  ·exact h.2 hl k hk h1
  ·have := RB.lt_ h.1 hl hk; omega⟩
theorem RAd.one (h : RAd A w u l) : u.oneCell' = true := by
 obtain ⟨⟨a, c, rfl, _⟩, _⟩ := h
 rfl
def RowD (A : Nat → Prop) (w : World) (v : Value) (n : Nat) (xs : List Value) : Prop :=
 ∃ a c, v = .slice a n c ∧ n ≤ c ∧ c ≤ maxLen ∧ (xs = [] ∨ ∃ b, a = some ⟨b, 0, none⟩ ∧ b < w.heap.size ∧ ¬ A b ∧ ∀ j (h : j < xs.length), w.cell? ⟨b, j, none⟩ = some xs[j])
theorem RowD.fr {n : Nat} {xs : List Value} (h : RowD A w v n xs) (hf : Fr D w w') (hD : ∀ k, D k → A k) (hA : ∀ k, A' k → A k ∨ w.heap.size ≤ k) : RowD A' w' v n xs := by
 obtain ⟨a, c, rfl, h1, h2, h3⟩ := h
 refine ⟨a, c, rfl, h1, h2, ?_⟩
 rcases h3 with h3 | ⟨b, rfl, hb, hn, hc⟩
 ·exact .inl h3
 ·exact .inr ⟨b, rfl, Nat.lt_of_lt_of_le hb hf.size, fun ha => by rcases hA b ha with h4 | h4; exact hn h4; omega, fun j hj => (World.cell?_of_block (a := ⟨b, j, none⟩) (hf.block b hb (fun hd => hn (hD b hd)))).trans (hc j hj)⟩
theorem RowD.own {base : Nat} {e : TypeId} {size n : Nat} {xs : List Value} (h : w.ownsRow base e size v n xs) (hA : ∀ k, base ≤ k → k < w.heap.size → ¬ A k) : RowD A w v n xs := by
 rcases h.2 with ⟨rfl, h0⟩ | ⟨g, cap, cur, rfl, hb, hg, hnc, hcm, _⟩
 ·subst h0
  have hl := h.1
  exact ⟨none, 0, rfl, Nat.le_refl _, Nat.zero_le _, .inl (List.eq_nil_of_length_eq_zero (by simpa using hl))⟩
 ·have hlt := (h.lt g rfl).2
  refine ⟨_, cap, rfl, hnc, hcm, .inr ⟨g, rfl, hlt, hA g hb hlt, fun j hj => ?_⟩⟩
  have := h.cells (g := g) rfl j xs[j] (List.getElem?_eq_getElem hj)
  rw [Addr.add_lit] at this
  simpa using this
theorem RowD.src {n size : Nat} {xs : List Value} (h : RowD A w v n xs) (hl : xs.length = n * size) (h0 : 0 < size) {tx e' : TypeId} (hk : Try.prog.underlying tx = some (.slice e')) (h1 : ∀ x ∈ xs, x.oneCell' = true) : Src Try.prog size tx v n xs w := by
 obtain ⟨a, c, rfl, _, _, h3⟩ := h
 rcases h3 with h3 | ⟨b, rfl, hb, hn, hc⟩
 ·subst h3
  have hn0 : n = 0 := by
   rcases Nat.eq_zero_or_pos n with h | h
   ·exact h
   ·have := Nat.mul_pos h h0; simp at hl; omega
  subst hn0
  cases a with
  | none => exact Src.ofNil _ hk c
  | some p => exact Src.ofSlice _ hk p 0 c [] (by simp) (fun j u hj => by simp at hj) (fun x hx => by cases hx)
 ·refine Src.ofSlice _ hk ⟨b, 0, none⟩ n c xs hl (fun j u hj => ?_) h1
  obtain ⟨hj', e⟩ := List.getElem?_eq_some_iff.1 hj
  rw [Addr.add_lit, Nat.zero_add, hc j hj', e]
def SRd (A : Nat → Prop) (w : World) (v : Value) (F : List (List UInt8)) : Prop :=
 ∃ qs : List (List UInt8 × Value), qs.map (·.1) = F ∧ RowD A w v F.length (qs.map (·.2)) ∧ ∀ q ∈ qs, RAd A w q.2 q.1
def pcsD (ps : List (Wr × Value)) : List Value := (ps.map fun p => [iv p.1.1, p.2]).flatten
theorem pcs_length (ps : List (Wr × Value)) : (pcsD ps).length = ps.length * 2 := by
 have := flat_length (m := 2) (L := ps.map fun p => [iv p.1.1, p.2]) (fun x hx => by obtain ⟨p, _, rfl⟩ := List.mem_map.1 hx; rfl)
 rw [pcsD, this]; simp
theorem pcs_get (ps : List (Wr × Value)) {j : Nat} (h : j < ps.length) : (pcsD ps)[j * 2]? = some (iv ps[j].1.1) ∧ (pcsD ps)[j * 2 + 1]? = some ps[j].2 := by
 have hall : ∀ x ∈ ps.map (fun p => [iv p.1.1, p.2]), x.length = 2 := fun x hx => by obtain ⟨p, _, rfl⟩ := List.mem_map.1 hx; rfl
 have h0 := flat_get hall (i := j) (j := 0) (by simpa using h) (by decide)
 have h1 := flat_get hall (i := j) (j := 1) (by simpa using h) (by decide)
 rw [Nat.add_zero] at h0
 exact ⟨by rw [pcsD, h0]; simp, by rw [pcsD, h1]; simp⟩
def LRd (A : Nat → Prop) (w : World) (v : Value) (L : List Wr) : Prop :=
 ∃ ps : List (Wr × Value), ps.map (·.1) = L ∧ RowD A w v L.length (pcsD ps) ∧ ∀ p ∈ ps, RAd A w p.2 p.1.2
theorem SRd.fr {F : List (List UInt8)} (h : SRd A w v F) (hf : Fr D w w') (hD : ∀ k, D k → A k) (hA : ∀ k, A' k → A k ∨ w.heap.size ≤ k) : SRd A' w' v F := by
 obtain ⟨qs, h1, h2, h3⟩ := h
 exact ⟨qs, h1, h2.fr hf hD hA, fun q hq => (h3 q hq).fr hf hD hA⟩
theorem LRd.fr {L : List Wr} (h : LRd A w v L) (hf : Fr D w w') (hD : ∀ k, D k → A k) (hA : ∀ k, A' k → A k ∨ w.heap.size ≤ k) : LRd A' w' v L := by
 obtain ⟨qs, h1, h2, h3⟩ := h
 exact ⟨qs, h1, h2.fr hf hD hA, fun q hq => (h3 q hq).fr hf hD hA⟩
theorem SRd.shape {F : List (List UInt8)} (h : SRd A w v F) : ∃ a c, v = .slice a F.length c ∧ F.length ≤ c := by
 obtain ⟨qs, h1, ⟨a, c, h2, h3, _⟩, _⟩ := h
 exact ⟨a, c, h2, h3⟩
theorem LRd.shape {L : List Wr} (h : LRd A w v L) : ∃ a c, v = .slice a L.length c ∧ L.length ≤ c := by
 obtain ⟨qs, h1, ⟨a, c, h2, h3, _⟩, _⟩ := h
 exact ⟨a, c, h2, h3⟩
theorem SRd.at_ {F : List (List UInt8)} {a : Option Addr} {c i : Nat} (h : SRd A w (.slice a F.length c) F) (hi : i < F.length) : ∃ b u, a = some ⟨b, 0, none⟩ ∧ b < w.heap.size ∧ ¬ A b ∧ w.cell? ⟨b, i, none⟩ = some u ∧ RAd A w u (F.getD i []) := by
 obtain ⟨qs, rfl, ⟨a', c', he, _, _, h2⟩, h3⟩ := h
 injection he with he _ _
 subst he
 have hq : i < qs.length := by simpa using hi
 rcases h2 with h2 | ⟨b, rfl, hb, hn, hc⟩
 ·rw [List.map_eq_nil_iff] at h2; subst h2; simp at hq
 ·refine ⟨b, qs[i].2, rfl, hb, hn, by have := hc i (by simpa using hq); simpa using this, ?_⟩
  have := h3 qs[i] (List.getElem_mem hq)
  simpa [List.getD_eq_getElem?_getD, List.getElem?_map, List.getElem?_eq_getElem hq] using this
theorem LRd.at_ {L : List Wr} {a : Option Addr} {c i : Nat} (h : LRd A w (.slice a L.length c) L) (hi : i < L.length) : ∃ b u, a = some ⟨b, 0, none⟩ ∧ b < w.heap.size ∧ ¬ A b ∧ w.cell? ⟨b, i * 2, none⟩ = some (iv (wat L i).1) ∧ w.cell? ⟨b, i * 2 + 1, none⟩ = some u ∧ RAd A w u (wat L i).2 := by
 obtain ⟨ps, rfl, ⟨a', c', he, _, _, h2⟩, h3⟩ := h
 injection he with he _ _
 subst he
 have hp : i < ps.length := by simpa using hi
 have hw : wat (ps.map (·.1)) i = ps[i].1 := by rw [wat_in hi]; simp
 rw [hw]
 have hl := pcs_length ps
 rcases h2 with h2 | ⟨b, rfl, hb, hn, hc⟩
 ·rw [h2] at hl; have h9 : (0 : Nat) = ps.length * 2 := hl; omega
 ·have hg := pcs_get ps hp
  refine ⟨b, ps[i].2, rfl, hb, hn, ?_, ?_, h3 ps[i] (List.getElem_mem hp)⟩
  ·rw [hc (i * 2) (by rw [hl]; omega), ← hg.1, List.getElem?_eq_getElem]
  ·rw [hc (i * 2 + 1) (by rw [hl]; omega), ← hg.2, List.getElem?_eq_getElem]
def TRd (A : Nat → Prop) (w : World) (tv : Value) (s : Sim) : Prop :=
 ∃ (vS vL : Value) (lf cw cf : Int), tv = .agg #[vS, vL, .int .i64 cw, .int .i64 cf, .bool s.fuse.isSome, .int .i64 lf] ∧ SRd A w vS s.firm ∧ LRd A w vL s.loose ∧ ∀ k, s.fuse = some k → lf = (k : Int)
theorem TRd.fr {s : Sim} (h : TRd A w v s) (hf : Fr D w w') (hD : ∀ k, D k → A k) (hA : ∀ k, A' k → A k ∨ w.heap.size ≤ k) : TRd A' w' v s := by
 obtain ⟨vS, vL, lf, cw, cf, h1, h2, h3, h4⟩ := h
 exact ⟨vS, vL, lf, cw, cf, h1, h2.fr hf hD hA, h3.fr hf hD hA, h4⟩
theorem TRd.below {s : Sim} (h : TRd A w v s) (hb : Below w.heap.size w w') : TRd A w' v s := h.fr (D := fun _ => False) (Fr.of_below hb) (fun _ h => h.elim) (fun _ h => .inl h)
theorem SRd.below {F : List (List UInt8)} (h : SRd A w v F) (hb : Below w.heap.size w w') : SRd A w' v F := h.fr (D := fun _ => False) (Fr.of_below hb) (fun _ h => h.elim) (fun _ h => .inl h)
theorem LRd.below {L : List Wr} (h : LRd A w v L) (hb : Below w.heap.size w w') : LRd A w' v L := h.fr (D := fun _ => False) (Fr.of_below hb) (fun _ h => h.elim) (fun _ h => .inl h)
def MadeD (A : Nat → Prop) (w : World) (s : Sim) (e : Ending) (w' : World) : Prop := ∃ tv, e = .returned tv ∧ TRd A w' tv s ∧ Below w.heap.size w w'
def MadeD2 (A : Nat → Prop) (w : World) (s : Sim) (r : Value) (e : Ending) (w' : World) : Prop := ∃ tv, e = .returned (.tuple #[tv, r]) ∧ TRd A w' tv s ∧ Below w.heap.size w w'
end
theorem MadeD2.mk {A : Nat → Prop} {w w' : World} {s : Sim} {vS vL r : Value} {lf cw cf : Int} {f : Bool} (hS : SRd A w vS s.firm) (hL : LRd A w vL s.loose) (hf : s.fuse.isSome = f) (hlf : ∀ k, s.fuse = some k → lf = (k : Int)) (hb : Below w.heap.size w w') :
  MadeD2 A w s r (.returned (.tuple #[.agg #[vS, vL, .int .i64 cw, .int .i64 cf, .bool f, .int .i64 lf], r])) w' :=
 ⟨_, rfl, ⟨vS, vL, lf, cw, cf, by rw [hf], hS.below hb, hL.below hb, hlf⟩, hb⟩
theorem MadeD.mk {A : Nat → Prop} {w w' : World} {s : Sim} {vS vL : Value} {lf cw cf : Int} {f : Bool} (hS : SRd A w vS s.firm) (hL : LRd A w vL s.loose) (hf : s.fuse.isSome = f) (hlf : ∀ k, s.fuse = some k → lf = (k : Int)) (hb : Below w.heap.size w w') :
  MadeD A w s (.returned (.agg #[vS, vL, .int .i64 cw, .int .i64 cf, .bool f, .int .i64 lf])) w' :=
 ⟨_, rfl, ⟨vS, vL, lf, cw, cf, by rw [hf], hS.below hb, hL.below hb, hlf⟩, hb⟩
theorem LRd.nil_ (A : Nat → Prop) (w : World) : LRd A w (.slice none 0 0) [] := ⟨[], rfl, ⟨none, 0, rfl, Nat.le_refl _, Nat.zero_le _, .inl rfl⟩, fun p hp => by cases hp⟩
end Go.Proofs.Ytmbkaedhllfoeaa
