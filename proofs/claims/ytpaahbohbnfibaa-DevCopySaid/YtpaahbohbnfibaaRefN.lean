/-
  The contract of the document's own New.
-/
import Derived.Test.YtpaahbohbnfibaaRefW
import Derived.Test.YtpaahbohbnfibaaWrite
namespace Go.Proofs.Ytpaahbohbnfibaa
open Go.RowKit Go.Rst Go.Dv
/-- A struct of the document's own, with nothing but what is firm. -/
def ts (v : Value) : Array Value := #[v, .slice none 0 0, .int .i64 0, .int .i64 0, .bool false, .int .i64 0]
def z64 : List UInt8 := List.replicate 64 0
/-- So many rows of noughts of the call's own. -/
def BR (B : Nat) (w : World) (v : Value) (k : Nat) : Prop := ∃ us : List Value, us.length = k ∧ w.ownsRow B 28 1 v k us ∧ ∀ u ∈ us, FB 5 w B u z64
theorem BR.setCell {B : Nat} {w : World} {v : Value} {k : Nat} (h : BR B w v k) {p : Addr} (hp : p.block < B) (u : Value) : BR B (w.setCell p u) v k := by
  obtain ⟨us, h1, h2, h3⟩ := h
  exact ⟨us, h1, ownsRow_setCell_below h2 hp u, fun x hx => (h3 x hx).setCell hp u⟩
theorem src_new {w w4 : World} {u : Value} {a : Option Addr} {n c : Nat} (h : w4 = w.alloc (.cells #[u] 28)) (hu : u = .slice a n c := by rfl) : Src Try.prog 1 35 (.slice (some ⟨w.heap.size, 0, none⟩) 1 1) 1 [u] w4 := by
  subst h
  exact src_one w Try.underlying35 28 u (by rw [hu]; rfl)
theorem BR.push {B k : Nat} {wr w2 w4 w5 : World} {v v5 : Value} {g : Nat} {us : List Value} (h1 : us.length = k) (h3 : ∀ u ∈ us, FB 5 wr B u z64) (h2 : wr.ownsRow B 28 1 v k us) (ho : w2.ownsRow B 5 1 (.slice (some ⟨g, 0, none⟩) 64 64) 64 (madeCells (Value.int .u8 0).cells (64 * 1)).toList) (hg2 : wr.drew.grownBy w2 none) (hb4 : Below w2.heap.size w2 w4)
    (ho5 : w5.ownsRow B 28 1 v5 (k + 1) (us ++ [.slice (some ⟨g, 0, none⟩) 64 64])) (hg5 : w4.grownBy w5 v.ownBlock) : BR B w5 v5 (k + 1) := by
  have h4 : w4.ownsRow B 28 1 v k us := own_below (own_grown (w := wr.drew) h2 hg2) hb4
  refine ⟨us ++ [.slice (some ⟨g, 0, none⟩) 64 64], by simp [h1], ho5, fun u hu => ?_⟩
  rcases List.mem_append.1 hu with hu | hu
  · have f2 : FB 5 w2 B u z64 := (h3 u hu).block_ fun b _ _ hb => (hg2.block b (Array.getElem?_eq_some_iff.1 hb).1 (by simp)).trans hb
    exact (f2.below hb4).grown h4 (by decide) hg5
  · have e : (madeCells (Value.int .u8 0).cells (64 * 1)).toList = bvs z64 := by
      rw [Nat.mul_one]
      have := toList_madeCells_one (.int .u8 0) 64
      simpa [z64, bvs, bv, Value.cells, List.map_replicate] using this
    rw [e] at ho
    have f2 : FB 5 w2 B (.slice (some ⟨g, 0, none⟩) 64 64) z64 := FB.own (l := z64) (by simpa [z64] using ho)
    obtain rfl : u = .slice (some ⟨g, 0, none⟩) 64 64 := by simpa using hu
    exact (f2.below hb4).grown h4 (by decide) hg5
theorem BR.sr {A : Nat → Prop} {B n : Nat} {w : World} {v : Value} (h : BR B w v n) (hA : ∀ k, B ≤ k → k < w.heap.size → ¬ A k) : SR A w v (List.replicate n z64) := by
  obtain ⟨us, h1, h2, h3⟩ := h
  subst h1
  refine ⟨us.map fun u => (z64, u), ?_, ?_, fun q hq => ?_⟩
  · rw [List.map_map]
    exact List.map_const'
  · rw [List.length_replicate, List.map_map, show ((·.2) ∘ fun u : Value => (z64, u)) = id from rfl, List.map_id]
    exact Row.own h2 hA
  · obtain ⟨u, hu, rfl⟩ := List.mem_map.1 hq
    refine ⟨(h3 u hu).rb, fun _ k hk ha => ?_⟩
    rcases h3 u hu with ⟨_, h0⟩ | ⟨b, c, cur, fr, he, hb, hg, _⟩
    · exact absurd (congrArg List.length h0) (by simp [z64])
    · rw [he] at hk
      have hkb : b = k := by simpa [Value.ownBlock] using hk
      subst hkb
      exact hA b hb (Array.getElem?_eq_some_iff.1 hg).1 ha
set_option maxRecDepth 100000 in
set_option maxHeartbeats 1000000 in
theorem refnew_no (n : Int) (w : World) (h : n < 0 ∨ 4096 < n) :
    Calls Try.prog 17 #[.int .i64 n] w fun e w' => e = .returned (.tuple #[.agg (ts (.slice none 0 0)), .bool false]) ∧ Below w.heap.size w w' := by
  by_cases h0 : n < 0
  · have h1 : decide (n < 0) = true := by simpa using h0
    clear h
    go_enter Try.func17, Try.ntmps17
    go_wp2
    exact bodyPost_ret (v := .tuple #[.agg (ts (.slice none 0 0)), .bool false]) (by simp [results, Try.results17, go_sem, ts]) rfl ⟨rfl, (Below.refl _ _).alloc (Nat.le_refl _) _⟩
  · have h1 : decide (n < 0) = false := by simpa using h0
    have h2 : 4096 < n := by omega
    clear h
    go_enter Try.func17, Try.ntmps17
    go_wp2
    exact bodyPost_ret (v := .tuple #[.agg (ts (.slice none 0 0)), .bool false]) (by simp [results, Try.results17, go_sem, ts]) rfl ⟨rfl, (Below.refl _ _).alloc (Nat.le_refl _) _⟩
set_option maxRecDepth 100000 in
set_option maxHeartbeats 2000000 in
theorem refnew_any {A : Nat → Prop} (n : Nat) (w : World) (h : n ≤ 4096) (hA : ∀ k, A k → k < w.heap.size) :
    Calls Try.prog 17 #[.int .i64 (n : Int)] w (Made2 A w (Sim.new n) (.bool true)) := by
  obtain ⟨i5, hi5, hz5, hs5, hb5⟩ := info_parts info5
  have HI5 := Lib.hid hi5
  have HZ5 := Lib.hid hz5
  have HS5 := Lib.hid hs5
  have HB5 := Lib.hid (show i5.bytes * 64 ≤ 281474976710656 by rw [hb5]; omega)
  have HM5 := Lib.hid (show 64 ≤ maxLen by unfold maxLen; omega)
  clear hi5 hz5 hs5 hb5
  have HA := Lib.hid hA
  clear hA
  have h1 : decide ((n : Int) < 0) = false := by simp
  have h2 : ¬ 4096 < (n : Int) := by omega
  go_enter Try.func17, Try.ntmps17
  go_wp2
  obtain ⟨g4, hg4⟩ : ∃ g4, g4 = w.heap.size + 1 := ⟨_, rfl⟩
  obtain ⟨W1, hW1⟩ : ∃ W1, W1 = (w.alloc (Obj.cells #[Value.slice none 0 0, Value.slice none 0 0, Value.int IntKind.i64 0, Value.int IntKind.i64 0, Value.bool false, Value.int IntKind.i64 0] 38)).alloc (Obj.cells #[Value.slice none 0 0, Value.slice none 0 0, Value.int IntKind.i64 0, Value.int IntKind.i64 0, Value.bool false, Value.int IntKind.i64 0] 38) := ⟨_, rfl⟩
  rw [← hW1, ← hg4]
  have hb2 : Blk W1 w.heap.size 38 (ts (.slice none 0 0)) := by rw [hW1]; exact heap_alloc2_old w _ _
  have hb4 : Blk W1 g4 38 (ts (.slice none 0 0)) := by rw [hW1, hg4]; exact heap_alloc2_new w _ _
  have hbw : Below w.heap.size w W1 := by rw [hW1]; exact below2 w _ _
  have HB2 := Lib.hid hb2
  have HB4a := Lib.hid hb4
  have HBW := Lib.hid hbw
  have HS1 := Lib.hid (show g4 ≤ W1.heap.size by rw [hW1, hg4]; simp)
  have HG4 := Lib.hid hg4
  clear hW1 hb2 hb4 hbw hg4
  go_loopw [5] (fun i wr => ∃ (k : Nat) (vS : Value), k ≤ n ∧ i = .int .i64 k ∧ Blk wr g4 38 (ts vS) ∧ BR (g4 + 1) wr vS k ∧ Below g4 W1 wr) (fun i _ => n - (intOf i).toNat)
  case atStart => exact ⟨0, _, Nat.zero_le _, rfl, HB4a.out, ⟨[], rfl, World.ownsRow_nil _ _ _ _, fun u hu => by cases hu⟩, Below.refl _ _⟩
  case round =>
    obtain ⟨k, vS, hk, rfl, hb4, hbr, hbel⟩ := hrel
    obtain ⟨us, hul, hus, huf⟩ := id hbr
    obtain ⟨aS, cS, rfl, _⟩ := own_shape hus
    have HB4 := Lib.hid hb4
    have HBRk := Lib.hid hbr
    have HBl := Lib.hid hbel
    have HOr := Lib.hid hus
    have HUL := Lib.hid hul
    have HUF := Lib.hid huf
    have HSZ := Lib.hid (show g4 + 1 ≤ wr.heap.size from hb4.lt)
    have HLM := Lib.hid (show k + 1 ≤ maxLen by unfold maxLen; omega)
    have HLB := Lib.hid (show (k + 1) * 24 ≤ 140737488355328 by omega)
    by_cases hlt : k < n
    · have hk1 : (k : Int) < (n : Int) := by omega
      clear hb4 hbr hbel hus huf hul
      go_wp2_with fail
      refine wp_region_held_drew (S := fun X => Below g4 W1 X) (by kernel_rfl) HBl.out.drew (fun hHeld => ?_)
      refine wpAnyH_take (i := 0) (oi := { dst := some 19, op := Op.fieldAddr 38 (Operand.tmp 4) 0, type := 0, pos := "ref.go:27", after := #[], guard := none }) (v := ?_) rfl (by kernel_rfl) (by kernel_rfl) (by kernel_rfl) (fun _ _ _ h => h) (Or.inl ⟨by rfl, ?_⟩) (by assumption) ?_
      rotate_left
      · intro X hSw; go_simp; try (with_reducible rfl)
      try simp only [Act.put, List.setIfInBounds_toArray, List.set_cons_zero, List.set_cons_succ]
      refine wpAnyH_ready (rs := [1, 2]) (by kernel_rfl) (by simp) ?_
      refine AllReadyH.cons (o := { dst := some 20, op := Op.load 35 (Operand.tmp 19), type := 35, pos := "ref.go:27", after := #[{ on := 0, ground := Ground.data }], guard := none }) rfl (fun K hK => ?_) (AllReadyH.cons (o := { dst := some 21, op := Op.makeSlice 28 (Operand.const (Value.int IntKind.i64 64)) (Operand.const (Value.int IntKind.i64 64)), type := 28, pos := "ref.go:27", after := #[], guard := none }) rfl (fun K hK => ?_) AllReadyH.nil)
      · have hq1 : wr.cell? ⟨g4, 0, none⟩ = some (.slice aS k cS) := HB4.out.cell 0
        try have hq2 : w2.cell? ⟨g4, 0, none⟩ = some (.slice aS k cS) := (HB4.out.same (w' := w2) (hgrow2.block g4 HB4.out.lt (by simp))).cell 0
        try have hq4 : w4.cell? ⟨g4, 0, none⟩ = some (.slice aS k cS) := ((HB4.out.same (w' := w2) (hgrow2.block g4 HB4.out.lt (by simp))).below hbw4 (Nat.lt_of_lt_of_le HB4.out.lt hgrow2.size)).cell 0
        go_simp
        clear hq1
        try clear hq2
        try clear hq4
        refine hK.out _ _ ?_ (fun _ => ?_)
        · exact hHeld
        clear hK K
        try simp only [Act.put, List.setIfInBounds_toArray, List.set_cons_zero, List.set_cons_succ]
        refine wpAnyH_ready (rs := [2]) (by kernel_rfl) (by simp) ?_
        refine AllReadyH.cons (o := { dst := some 21, op := Op.makeSlice 28 (Operand.const (Value.int IntKind.i64 64)) (Operand.const (Value.int IntKind.i64 64)), type := 28, pos := "ref.go:27", after := #[], guard := none }) rfl (fun K hK => ?_) AllReadyH.nil
        refine step_make (by rfl) (.const (.int .i64 64)) (.const (.int .i64 64)) 28 (by rfl) (g4 + 1) 5 i5 (.int .u8 0) 1 Try.underlying28 HI5.out HZ5.out HS5.out .i64 .i64 _ _ 64 (by rfl) (by rfl) rfl rfl HB5.out HM5.out HSZ.out ?_
        intro w2 hown2 hgrow2
        have hHeld' := hHeld.grown hgrow2 (Nat.le_trans HS1.out hHeld.size) (fun k hk => by cases hk)
        refine hK.out _ _ ?_ (fun _ => ?_)
        · exact hHeld'
        clear hK K hHeld
        have hHeld := hHeld'
        clear hHeld'
        try simp only [Act.put, List.setIfInBounds_toArray, List.set_cons_zero, List.set_cons_succ]
        refine wpAnyH_ready (rs := [3]) (by kernel_rfl) (by simp) ?_
        refine AllReadyH.cons (o := { dst := some 22, op := Op.buildSlice 35 1 #[(0, Operand.tmp 21)], type := 35, pos := "ref.go:27", after := #[{ on := 2, ground := Ground.data }], guard := none }) rfl (fun K hK => ?_) AllReadyH.nil
        go_simp
        refine gen_alloc ?_
        intro w4 hw4 hbw4
        have HW4 := Lib.hid hw4
        clear hw4
        try (go_wp2_with fail)
        have hHeld' := hHeld.trans (hbw4.mono (Nat.le_trans HS1.out hHeld.size))
        refine hK.out _ _ ?_ (fun _ => ?_)
        · exact hHeld'
        clear hK K hHeld
        have hHeld := hHeld'
        clear hHeld'
        try simp only [Act.put, List.setIfInBounds_toArray, List.set_cons_zero, List.set_cons_succ]
        refine wpAnyH_ready (rs := [4]) (by kernel_rfl) (by simp) ?_
        refine AllReadyH.cons (o := { dst := some 23, op := Op.call { callee := Callee.builtin Builtin.append, args := #[Operand.tmp 20, Operand.tmp 22], argTypes := #[35, 35] }, type := 35, pos := "ref.go:27", after := #[{ on := 1, ground := Ground.data }, { on := 3, ground := Ground.data }], guard := none }) rfl (fun K hK => ?_) AllReadyH.nil
        refine step_append_src (by rfl) (.tmp 20) (.tmp 22) 35 35 (by rfl) (g4 + 1) 28 (.slice none 0 0) 1 24 Try.underlying35 info28 rfl (by rfl) (own_below (own_grown (w := wr.drew) HOr.out hgrow2) hbw4) (by rfl) (src_new HW4.out) HLM.out HLB.out (Nat.le_trans (Nat.le_trans HSZ.out hgrow2.size) hbw4.size) ?_
        intro v5 w5 hown5 hgrow5 _
        obtain ⟨a5, c5, rfl, _⟩ := own_shape hown5
        have hn5 : some g4 ≠ Value.ownBlock (.slice aS k cS) := fun he => by have := (HOr.out.lt g4 he.symm).1; omega
        have hHeld' := hHeld.grown hgrow5 (Nat.le_trans HS1.out hHeld.size) (fun j hj => by have := (HOr.out.lt j hj).1; omega)
        refine hK.out _ _ ?_ (fun _ => ?_)
        · exact hHeld'
        clear hK K hHeld
        have hHeld := hHeld'
        clear hHeld'
        try simp only [Act.put, List.setIfInBounds_toArray, List.set_cons_zero, List.set_cons_succ]
        refine wpAnyH_take (i := 5) (oi := { dst := some 24, op := Op.fieldAddr 38 (Operand.tmp 4) 0, type := 0, pos := "ref.go:27", after := #[{ on := 0, ground := Ground.phase }, { on := 1, ground := Ground.phase }, { on := 2, ground := Ground.phase }, { on := 3, ground := Ground.phase }, { on := 4, ground := Ground.phase }], guard := none }) (v := ?_) rfl (by kernel_rfl) (by kernel_rfl) (by kernel_rfl) (fun _ _ _ h => h) (Or.inl ⟨by rfl, ?_⟩) (by assumption) ?_
        rotate_left
        · intro X hSw; go_simp; try (with_reducible rfl)
        try simp only [Act.put, List.setIfInBounds_toArray, List.set_cons_zero, List.set_cons_succ]
        refine wpAnyH_ready (rs := [6]) (by kernel_rfl) (by simp) ?_
        refine AllReadyH.cons (o := { dst := none, op := Op.store 35 (Operand.tmp 24) (Operand.tmp 23), type := 0, pos := "ref.go:27", after := #[{ on := 5, ground := Ground.data }, { on := 4, ground := Ground.data }, { on := 4, ground := Ground.chain }, { on := 0, ground := Ground.phase }, { on := 1, ground := Ground.phase }, { on := 2, ground := Ground.phase }, { on := 3, ground := Ground.phase }, { on := 4, ground := Ground.phase }], guard := none }) rfl (fun K hK => ?_) AllReadyH.nil
        have hblk5 : Blk w5 g4 38 (ts (.slice aS k cS)) := ((HB4.out.same (w' := w2) (hgrow2.block g4 HB4.out.lt (by simp))).below hbw4 (Nat.lt_of_lt_of_le HB4.out.lt hgrow2.size)).same (hgrow5.block g4 (Nat.lt_of_lt_of_le (Nat.lt_of_lt_of_le HB4.out.lt hgrow2.size) hbw4.size) hn5)
        have hq1 : w5.cell? ⟨g4, 0, none⟩ = some (.slice aS k cS) := hblk5.cell 0
        have hq2 := hblk5.frozen 0
        go_simp
        clear hq1 hq2
        have hHeld' := Below.setCell (p := ⟨g4, 0, none⟩) hHeld (Nat.le_refl g4) (.slice a5 (k + 1) c5)
        refine hK.out _ _ ?_ (fun _ => ?_)
        · exact hHeld'
        clear hK K hHeld
        have hHeld := hHeld'
        clear hHeld'
        try simp only [Act.put, List.setIfInBounds_toArray, List.set_cons_zero, List.set_cons_succ]
        refine wpAnyH_done (by kernel_rfl) ?_ _
        have HBR := Lib.hid (BR.push HUL.out HUF.out HOr.out hown2 hgrow2 hbw4 hown5 hgrow5)
        have HBK := Lib.hid (hblk5.set_ 0 (.slice a5 (k + 1) c5))
        have HHe := Lib.hid hHeld
        clear hHeld hown2 hgrow2 hbw4 hown5 hgrow5 hblk5 HW4
        go_wp2
        go_roundw
        case rel => exact ⟨k + 1, _, by omega, by go_num, HBK.out, HBR.out.setCell (by show g4 < g4 + 1; omega) _, HHe.out⟩
        case measure => simp [intOf]; omega
      · refine step_make (by rfl) (.const (.int .i64 64)) (.const (.int .i64 64)) 28 (by rfl) (g4 + 1) 5 i5 (.int .u8 0) 1 Try.underlying28 HI5.out HZ5.out HS5.out .i64 .i64 _ _ 64 (by rfl) (by rfl) rfl rfl HB5.out HM5.out HSZ.out ?_
        intro w2 hown2 hgrow2
        have hHeld' := hHeld.grown hgrow2 (Nat.le_trans HS1.out hHeld.size) (fun k hk => by cases hk)
        refine hK.out _ _ ?_ (fun _ => ?_)
        · exact hHeld'
        clear hK K hHeld
        have hHeld := hHeld'
        clear hHeld'
        try simp only [Act.put, List.setIfInBounds_toArray, List.set_cons_zero, List.set_cons_succ]
        refine wpAnyH_ready (rs := [1, 3]) (by kernel_rfl) (by simp) ?_
        refine AllReadyH.cons (o := { dst := some 20, op := Op.load 35 (Operand.tmp 19), type := 35, pos := "ref.go:27", after := #[{ on := 0, ground := Ground.data }], guard := none }) rfl (fun K hK => ?_) (AllReadyH.cons (o := { dst := some 22, op := Op.buildSlice 35 1 #[(0, Operand.tmp 21)], type := 35, pos := "ref.go:27", after := #[{ on := 2, ground := Ground.data }], guard := none }) rfl (fun K hK => ?_) AllReadyH.nil)
        · have hq1 : wr.cell? ⟨g4, 0, none⟩ = some (.slice aS k cS) := HB4.out.cell 0
          try have hq2 : w2.cell? ⟨g4, 0, none⟩ = some (.slice aS k cS) := (HB4.out.same (w' := w2) (hgrow2.block g4 HB4.out.lt (by simp))).cell 0
          try have hq4 : w4.cell? ⟨g4, 0, none⟩ = some (.slice aS k cS) := ((HB4.out.same (w' := w2) (hgrow2.block g4 HB4.out.lt (by simp))).below hbw4 (Nat.lt_of_lt_of_le HB4.out.lt hgrow2.size)).cell 0
          go_simp
          clear hq1
          try clear hq2
          try clear hq4
          refine hK.out _ _ ?_ (fun _ => ?_)
          · exact hHeld
          clear hK K
          try simp only [Act.put, List.setIfInBounds_toArray, List.set_cons_zero, List.set_cons_succ]
          refine wpAnyH_ready (rs := [3]) (by kernel_rfl) (by simp) ?_
          refine AllReadyH.cons (o := { dst := some 22, op := Op.buildSlice 35 1 #[(0, Operand.tmp 21)], type := 35, pos := "ref.go:27", after := #[{ on := 2, ground := Ground.data }], guard := none }) rfl (fun K hK => ?_) AllReadyH.nil
          go_simp
          refine gen_alloc ?_
          intro w4 hw4 hbw4
          have HW4 := Lib.hid hw4
          clear hw4
          try (go_wp2_with fail)
          have hHeld' := hHeld.trans (hbw4.mono (Nat.le_trans HS1.out hHeld.size))
          refine hK.out _ _ ?_ (fun _ => ?_)
          · exact hHeld'
          clear hK K hHeld
          have hHeld := hHeld'
          clear hHeld'
          try simp only [Act.put, List.setIfInBounds_toArray, List.set_cons_zero, List.set_cons_succ]
          refine wpAnyH_ready (rs := [4]) (by kernel_rfl) (by simp) ?_
          refine AllReadyH.cons (o := { dst := some 23, op := Op.call { callee := Callee.builtin Builtin.append, args := #[Operand.tmp 20, Operand.tmp 22], argTypes := #[35, 35] }, type := 35, pos := "ref.go:27", after := #[{ on := 1, ground := Ground.data }, { on := 3, ground := Ground.data }], guard := none }) rfl (fun K hK => ?_) AllReadyH.nil
          refine step_append_src (by rfl) (.tmp 20) (.tmp 22) 35 35 (by rfl) (g4 + 1) 28 (.slice none 0 0) 1 24 Try.underlying35 info28 rfl (by rfl) (own_below (own_grown (w := wr.drew) HOr.out hgrow2) hbw4) (by rfl) (src_new HW4.out) HLM.out HLB.out (Nat.le_trans (Nat.le_trans HSZ.out hgrow2.size) hbw4.size) ?_
          intro v5 w5 hown5 hgrow5 _
          obtain ⟨a5, c5, rfl, _⟩ := own_shape hown5
          have hn5 : some g4 ≠ Value.ownBlock (.slice aS k cS) := fun he => by have := (HOr.out.lt g4 he.symm).1; omega
          have hHeld' := hHeld.grown hgrow5 (Nat.le_trans HS1.out hHeld.size) (fun j hj => by have := (HOr.out.lt j hj).1; omega)
          refine hK.out _ _ ?_ (fun _ => ?_)
          · exact hHeld'
          clear hK K hHeld
          have hHeld := hHeld'
          clear hHeld'
          try simp only [Act.put, List.setIfInBounds_toArray, List.set_cons_zero, List.set_cons_succ]
          refine wpAnyH_take (i := 5) (oi := { dst := some 24, op := Op.fieldAddr 38 (Operand.tmp 4) 0, type := 0, pos := "ref.go:27", after := #[{ on := 0, ground := Ground.phase }, { on := 1, ground := Ground.phase }, { on := 2, ground := Ground.phase }, { on := 3, ground := Ground.phase }, { on := 4, ground := Ground.phase }], guard := none }) (v := ?_) rfl (by kernel_rfl) (by kernel_rfl) (by kernel_rfl) (fun _ _ _ h => h) (Or.inl ⟨by rfl, ?_⟩) (by assumption) ?_
          rotate_left
          · intro X hSw; go_simp; try (with_reducible rfl)
          try simp only [Act.put, List.setIfInBounds_toArray, List.set_cons_zero, List.set_cons_succ]
          refine wpAnyH_ready (rs := [6]) (by kernel_rfl) (by simp) ?_
          refine AllReadyH.cons (o := { dst := none, op := Op.store 35 (Operand.tmp 24) (Operand.tmp 23), type := 0, pos := "ref.go:27", after := #[{ on := 5, ground := Ground.data }, { on := 4, ground := Ground.data }, { on := 4, ground := Ground.chain }, { on := 0, ground := Ground.phase }, { on := 1, ground := Ground.phase }, { on := 2, ground := Ground.phase }, { on := 3, ground := Ground.phase }, { on := 4, ground := Ground.phase }], guard := none }) rfl (fun K hK => ?_) AllReadyH.nil
          have hblk5 : Blk w5 g4 38 (ts (.slice aS k cS)) := ((HB4.out.same (w' := w2) (hgrow2.block g4 HB4.out.lt (by simp))).below hbw4 (Nat.lt_of_lt_of_le HB4.out.lt hgrow2.size)).same (hgrow5.block g4 (Nat.lt_of_lt_of_le (Nat.lt_of_lt_of_le HB4.out.lt hgrow2.size) hbw4.size) hn5)
          have hq1 : w5.cell? ⟨g4, 0, none⟩ = some (.slice aS k cS) := hblk5.cell 0
          have hq2 := hblk5.frozen 0
          go_simp
          clear hq1 hq2
          have hHeld' := Below.setCell (p := ⟨g4, 0, none⟩) hHeld (Nat.le_refl g4) (.slice a5 (k + 1) c5)
          refine hK.out _ _ ?_ (fun _ => ?_)
          · exact hHeld'
          clear hK K hHeld
          have hHeld := hHeld'
          clear hHeld'
          try simp only [Act.put, List.setIfInBounds_toArray, List.set_cons_zero, List.set_cons_succ]
          refine wpAnyH_done (by kernel_rfl) ?_ _
          have HBR := Lib.hid (BR.push HUL.out HUF.out HOr.out hown2 hgrow2 hbw4 hown5 hgrow5)
          have HBK := Lib.hid (hblk5.set_ 0 (.slice a5 (k + 1) c5))
          have HHe := Lib.hid hHeld
          clear hHeld hown2 hgrow2 hbw4 hown5 hgrow5 hblk5 HW4
          go_wp2
          go_roundw
          case rel => exact ⟨k + 1, _, by omega, by go_num, HBK.out, HBR.out.setCell (by show g4 < g4 + 1; omega) _, HHe.out⟩
          case measure => simp [intOf]; omega
        · go_simp
          refine gen_alloc ?_
          intro w4 hw4 hbw4
          have HW4 := Lib.hid hw4
          clear hw4
          try (go_wp2_with fail)
          have hHeld' := hHeld.trans (hbw4.mono (Nat.le_trans HS1.out hHeld.size))
          refine hK.out _ _ ?_ (fun _ => ?_)
          · exact hHeld'
          clear hK K hHeld
          have hHeld := hHeld'
          clear hHeld'
          try simp only [Act.put, List.setIfInBounds_toArray, List.set_cons_zero, List.set_cons_succ]
          refine wpAnyH_ready (rs := [1]) (by kernel_rfl) (by simp) ?_
          refine AllReadyH.cons (o := { dst := some 20, op := Op.load 35 (Operand.tmp 19), type := 35, pos := "ref.go:27", after := #[{ on := 0, ground := Ground.data }], guard := none }) rfl (fun K hK => ?_) AllReadyH.nil
          have hq1 : wr.cell? ⟨g4, 0, none⟩ = some (.slice aS k cS) := HB4.out.cell 0
          try have hq2 : w2.cell? ⟨g4, 0, none⟩ = some (.slice aS k cS) := (HB4.out.same (w' := w2) (hgrow2.block g4 HB4.out.lt (by simp))).cell 0
          try have hq4 : w4.cell? ⟨g4, 0, none⟩ = some (.slice aS k cS) := ((HB4.out.same (w' := w2) (hgrow2.block g4 HB4.out.lt (by simp))).below hbw4 (Nat.lt_of_lt_of_le HB4.out.lt hgrow2.size)).cell 0
          go_simp
          clear hq1
          try clear hq2
          try clear hq4
          refine hK.out _ _ ?_ (fun _ => ?_)
          · exact hHeld
          clear hK K
          try simp only [Act.put, List.setIfInBounds_toArray, List.set_cons_zero, List.set_cons_succ]
          refine wpAnyH_ready (rs := [4]) (by kernel_rfl) (by simp) ?_
          refine AllReadyH.cons (o := { dst := some 23, op := Op.call { callee := Callee.builtin Builtin.append, args := #[Operand.tmp 20, Operand.tmp 22], argTypes := #[35, 35] }, type := 35, pos := "ref.go:27", after := #[{ on := 1, ground := Ground.data }, { on := 3, ground := Ground.data }], guard := none }) rfl (fun K hK => ?_) AllReadyH.nil
          refine step_append_src (by rfl) (.tmp 20) (.tmp 22) 35 35 (by rfl) (g4 + 1) 28 (.slice none 0 0) 1 24 Try.underlying35 info28 rfl (by rfl) (own_below (own_grown (w := wr.drew) HOr.out hgrow2) hbw4) (by rfl) (src_new HW4.out) HLM.out HLB.out (Nat.le_trans (Nat.le_trans HSZ.out hgrow2.size) hbw4.size) ?_
          intro v5 w5 hown5 hgrow5 _
          obtain ⟨a5, c5, rfl, _⟩ := own_shape hown5
          have hn5 : some g4 ≠ Value.ownBlock (.slice aS k cS) := fun he => by have := (HOr.out.lt g4 he.symm).1; omega
          have hHeld' := hHeld.grown hgrow5 (Nat.le_trans HS1.out hHeld.size) (fun j hj => by have := (HOr.out.lt j hj).1; omega)
          refine hK.out _ _ ?_ (fun _ => ?_)
          · exact hHeld'
          clear hK K hHeld
          have hHeld := hHeld'
          clear hHeld'
          try simp only [Act.put, List.setIfInBounds_toArray, List.set_cons_zero, List.set_cons_succ]
          refine wpAnyH_take (i := 5) (oi := { dst := some 24, op := Op.fieldAddr 38 (Operand.tmp 4) 0, type := 0, pos := "ref.go:27", after := #[{ on := 0, ground := Ground.phase }, { on := 1, ground := Ground.phase }, { on := 2, ground := Ground.phase }, { on := 3, ground := Ground.phase }, { on := 4, ground := Ground.phase }], guard := none }) (v := ?_) rfl (by kernel_rfl) (by kernel_rfl) (by kernel_rfl) (fun _ _ _ h => h) (Or.inl ⟨by rfl, ?_⟩) (by assumption) ?_
          rotate_left
          · intro X hSw; go_simp; try (with_reducible rfl)
          try simp only [Act.put, List.setIfInBounds_toArray, List.set_cons_zero, List.set_cons_succ]
          refine wpAnyH_ready (rs := [6]) (by kernel_rfl) (by simp) ?_
          refine AllReadyH.cons (o := { dst := none, op := Op.store 35 (Operand.tmp 24) (Operand.tmp 23), type := 0, pos := "ref.go:27", after := #[{ on := 5, ground := Ground.data }, { on := 4, ground := Ground.data }, { on := 4, ground := Ground.chain }, { on := 0, ground := Ground.phase }, { on := 1, ground := Ground.phase }, { on := 2, ground := Ground.phase }, { on := 3, ground := Ground.phase }, { on := 4, ground := Ground.phase }], guard := none }) rfl (fun K hK => ?_) AllReadyH.nil
          have hblk5 : Blk w5 g4 38 (ts (.slice aS k cS)) := ((HB4.out.same (w' := w2) (hgrow2.block g4 HB4.out.lt (by simp))).below hbw4 (Nat.lt_of_lt_of_le HB4.out.lt hgrow2.size)).same (hgrow5.block g4 (Nat.lt_of_lt_of_le (Nat.lt_of_lt_of_le HB4.out.lt hgrow2.size) hbw4.size) hn5)
          have hq1 : w5.cell? ⟨g4, 0, none⟩ = some (.slice aS k cS) := hblk5.cell 0
          have hq2 := hblk5.frozen 0
          go_simp
          clear hq1 hq2
          have hHeld' := Below.setCell (p := ⟨g4, 0, none⟩) hHeld (Nat.le_refl g4) (.slice a5 (k + 1) c5)
          refine hK.out _ _ ?_ (fun _ => ?_)
          · exact hHeld'
          clear hK K hHeld
          have hHeld := hHeld'
          clear hHeld'
          try simp only [Act.put, List.setIfInBounds_toArray, List.set_cons_zero, List.set_cons_succ]
          refine wpAnyH_done (by kernel_rfl) ?_ _
          have HBR := Lib.hid (BR.push HUL.out HUF.out HOr.out hown2 hgrow2 hbw4 hown5 hgrow5)
          have HBK := Lib.hid (hblk5.set_ 0 (.slice a5 (k + 1) c5))
          have HHe := Lib.hid hHeld
          clear hHeld hown2 hgrow2 hbw4 hown5 hgrow5 hblk5 HW4
          go_wp2
          go_roundw
          case rel => exact ⟨k + 1, _, by omega, by go_num, HBK.out, HBR.out.setCell (by show g4 < g4 + 1; omega) _, HHe.out⟩
          case measure => simp [intOf]; omega
    · obtain rfl : k = n := by omega
      have HB2r := Lib.hid (HB2.out.below hbel (by have := HG4.out; omega))
      have HBWr := Lib.hid (HBW.out.trans (hbel.mono (by have := HG4.out; omega)))
      have c0 : wr.cell? ⟨g4, 0, none⟩ = some (.slice aS k cS) := HB4.out.cell 0
      have c1 : wr.cell? ⟨g4, 1, none⟩ = some (.slice none 0 0) := HB4.out.cell 1
      have c2 : wr.cell? ⟨g4, 2, none⟩ = some (.int .i64 0) := HB4.out.cell 2
      have c3 : wr.cell? ⟨g4, 3, none⟩ = some (.int .i64 0) := HB4.out.cell 3
      have c4 : wr.cell? ⟨g4, 4, none⟩ = some (.bool false) := HB4.out.cell 4
      have c5 : wr.cell? ⟨g4, 5, none⟩ = some (.int .i64 0) := HB4.out.cell 5
      have d0 : wr.cell? ⟨w.heap.size, 0, none⟩ = some (.slice none 0 0) := HB2r.out.cell 0
      have d1 : wr.cell? ⟨w.heap.size, 1, none⟩ = some (.slice none 0 0) := HB2r.out.cell 1
      have d2 : wr.cell? ⟨w.heap.size, 2, none⟩ = some (.int .i64 0) := HB2r.out.cell 2
      have d3 : wr.cell? ⟨w.heap.size, 3, none⟩ = some (.int .i64 0) := HB2r.out.cell 3
      have d4 : wr.cell? ⟨w.heap.size, 4, none⟩ = some (.bool false) := HB2r.out.cell 4
      have d5 : wr.cell? ⟨w.heap.size, 5, none⟩ = some (.int .i64 0) := HB2r.out.cell 5
      have df : ∀ i, wr.frozen? ⟨w.heap.size, i, none⟩ = false := HB2r.out.frozen
      have l2 : w.heap.size < wr.heap.size := HB2r.out.lt
      clear hb4 hbr hbel hus huf hul
      go_wp2_with fail
      have hblk := blk_six HB2r.out (.slice aS k cS) (.slice none 0 0) (.int .i64 0) (.int .i64 0) (.bool false) (.int .i64 0)
      have e0 := hblk.cell 0
      have e1 := hblk.cell 1
      have e2 := hblk.cell 2
      have e3 := hblk.cell 3
      have e4 := hblk.cell 4
      have e5 := hblk.cell 5
      refine bodyPost_ret (v := .tuple #[.agg #[.slice aS k cS, .slice none 0 0, .int .i64 0, .int .i64 0, .bool false, .int .i64 0], .bool true]) (by simp [results, Try.results17, go_sem, e0, e1, e2, e3, e4, e5]) rfl ?_
      have hfr := fr_six (Fr.refl (fun j => j = w.heap.size) wr) (.inl rfl) (.slice aS k cS) (.slice none 0 0) (.int .i64 0) (.int .i64 0) (.bool false) (.int .i64 0)
      have hSR := (HBRk.out.sr (A := fun j => A j ∨ j = w.heap.size) (fun j hj _ ha => by
        have := HG4.out
        rcases ha with ha | ha
        · have := HA.out j ha; omega
        · omega)).fr (A' := A) hfr (fun j hj => .inr hj) (fun j hj => .inl (.inl hj))
      have el : (Sim.new k).firm.length = k := by simp [Sim.new]
      refine ⟨_, rfl, ⟨.slice aS k cS, .slice none 0 0, 0, rfl, hSR, LR.nil_ _ _, fun j hj => by cases hj⟩, HBWr.out.trans (hfr.below (fun j hj => by omega) (Nat.le_of_lt l2))⟩
end Go.Proofs.Ytpaahbohbnfibaa
