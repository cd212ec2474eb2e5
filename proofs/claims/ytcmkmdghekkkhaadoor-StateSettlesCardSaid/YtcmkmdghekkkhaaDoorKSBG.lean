/-
  The contract of the program's Without (layer state).; The contracts of slices.Clone of numbers and of messages, and of the program's own, by what they own (layer state).
-/
import Derived.Test.YtcmkmdghekkkhaaDoorKSBE
import Derived.Handy
set_option linter.unusedVariables false
set_option linter.unusedVariables false
namespace Go.Proofs.YtcmkmdghekkkhaaDoor
open Go.RowKit Go.Rst Go.Tp Go.Ts
theorem own_base {w : World} {b b' : Nat} {e : TypeId} {sz : Nat} {v : Value} {n : Nat} {xs : List Value} (h : w.ownsRow b e sz v n xs) (hb : b' ≤ b) : w.ownsRow b' e sz v n xs := by
  refine ⟨h.1, ?_⟩
  rcases h.2 with h | ⟨g, cap, cur, h1, h2, h3⟩
  · exact .inl h
  · exact .inr ⟨g, cap, cur, h1, Nat.le_trans hb h2, h3⟩
end Go.Proofs.YtcmkmdghekkkhaaDoor
set_option linter.unusedVariables false
namespace Go.Proofs.YtcmkmdghekkkhaaDoor
open Go.RowKit Go.Rst Go.Tp Go.Ts
set_option maxRecDepth 100000 in
set_option maxHeartbeats 1000000 in
theorem cloneI2_any (v : Value) (xs : List Int) (w : World) (h : RI w v xs) (hl : xs.length * 8 ≤ 140737488355328) :
    Calls Tryd.prog 55 #[v] w fun e w' => ∃ u, e = .returned u ∧ w'.ownsRow w.heap.size 3 1 u xs.length (xs.map fun n => [Value.int .i64 n]).flatten ∧ Below w.heap.size w w' := by
  have HS := Lib.hid (src_ints (P := Tryd.prog) (h.below stays_ci ((Below.refl w.heap.size w).alloc (Nat.le_refl _) (Obj.cells #[] 3))) Tryd.underlying32)
  have HLM := Lib.hid (show 0 + xs.length ≤ maxLen by unfold maxLen; omega)
  have HLB := Lib.hid (show (0 + xs.length) * 8 ≤ 140737488355328 by omega)
  have HO := Lib.hid (own_emptyS w 3 1)
  obtain ⟨A, c, rfl, _, _, h3⟩ := h
  cases A with
  | none =>
    have hl0 : xs = [] := by
      rcases h3 with h3 | ⟨b, off, h4, _⟩
      · exact h3
      · cases h4
    subst hl0
    have e1 : (binOp .eql 32 (.slice none 0 c) (.slice none 0 0)).run Tryd.prog w = .ok (.bool true) w := eql_nilS w 32 3 none 0 c Tryd.underlying32
    rw [List.length_nil]
    clear h3
    go_enter Tryd.func55, Tryd.ntmps55
    go_wp2
    go_ret
    exact ⟨_, rfl, World.ownsRow_nil _ _ _ _, Below.refl _ _⟩
  | some a =>
    have e1 : (binOp .eql 32 (.slice (some a) xs.length c) (.slice none 0 0)).run Tryd.prog w = .ok (.bool false) w := eql_nilS w 32 3 (some a) xs.length c Tryd.underlying32
    clear h3
    go_enter Tryd.func55, Tryd.ntmps55
    go_wp2_with (at_builtin; refine wpList_own rfl (.tmp 5) (.tmp 6) 32 32 rfl w.heap.size 3 (.int .i64 0) 1 8 Tryd.underlying32 infoNum rfl rfl HO.out rfl HS.out ((Below.refl w.heap.size w).alloc (Nat.le_refl _) _) (Nat.le_refl _) HLM.out HLB.out (by simp) ?_)
    intro v5 w5 hown5 hbel5 _
    have HO5 := Lib.hid hown5
    have HB5 := Lib.hid hbel5
    obtain ⟨A5, c5, rfl, _⟩ := own_shape hown5
    clear hown5 hbel5
    go_wp2
    go_ret
    exact ⟨_, rfl, HO5.out, HB5.out⟩
set_option maxRecDepth 100000 in
set_option maxHeartbeats 1000000 in
theorem cloneM2_any (v : Value) (xs : List Msg) (w : World) (h : RM w v xs) (hl : xs.length * 88 ≤ 140737488355328) :
    Calls Tryd.prog 56 #[v] w fun e w' => ∃ u, e = .returned u ∧ w'.ownsRow w.heap.size 55 8 u xs.length (xs.map msgC).flatten ∧ Below w.heap.size w w' := by
  have HS := Lib.hid (src_msgs (P := Tryd.prog) (h.below stays_cm ((Below.refl w.heap.size w).alloc (Nat.le_refl _) (Obj.cells #[] 55))) Tryd.underlying33)
  have HLM := Lib.hid (show 0 + xs.length ≤ maxLen by unfold maxLen; omega)
  have HLB := Lib.hid (show (0 + xs.length) * 88 ≤ 140737488355328 by omega)
  have HO := Lib.hid (own_emptyS w 55 8)
  obtain ⟨A, c, rfl, _, _, h3⟩ := h
  cases A with
  | none =>
    have hl0 : xs = [] := by
      rcases h3 with h3 | ⟨b, off, h4, _⟩
      · exact h3
      · cases h4
    subst hl0
    have e1 : (binOp .eql 33 (.slice none 0 c) (.slice none 0 0)).run Tryd.prog w = .ok (.bool true) w := eql_nilS w 33 55 none 0 c Tryd.underlying33
    rw [List.length_nil]
    clear h3
    go_enter Tryd.func56, Tryd.ntmps56
    go_wp2
    go_ret
    exact ⟨_, rfl, World.ownsRow_nil _ _ _ _, Below.refl _ _⟩
  | some a =>
    have e1 : (binOp .eql 33 (.slice (some a) xs.length c) (.slice none 0 0)).run Tryd.prog w = .ok (.bool false) w := eql_nilS w 33 55 (some a) xs.length c Tryd.underlying33
    clear h3
    go_enter Tryd.func56, Tryd.ntmps56
    go_wp2_with (at_builtin; refine wpList_own rfl (.tmp 5) (.tmp 6) 33 33 rfl w.heap.size 55 (.agg #[.int .i64 0, .string .empty, .string .empty, .int .i64 0, .int .i64 0, .bool false, .string .empty, .int .i64 0]) 8 88 Tryd.underlying33 infoMsg rfl rfl HO.out rfl HS.out ((Below.refl w.heap.size w).alloc (Nat.le_refl _) _) (Nat.le_refl _) HLM.out HLB.out (by simp) ?_)
    intro v5 w5 hown5 hbel5 _
    have HO5 := Lib.hid hown5
    have HB5 := Lib.hid hbel5
    obtain ⟨A5, c5, rfl, _⟩ := own_shape hown5
    clear hown5 hbel5
    go_wp2
    go_ret
    exact ⟨_, rfl, HO5.out, HB5.out⟩
def GivesOwn2 (w : World) (x : Sub) (e : Ending) (w' : World) : Prop := ∃ av qv, e = .returned (.agg (subC x av qv).toArray) ∧ w'.ownsRow w.heap.size 3 1 av x.acks.length (x.acks.map fun n => [Value.int .i64 n]).flatten ∧ w'.ownsRow w.heap.size 55 8 qv x.queue.length (x.queue.map msgC).flatten ∧ Below w.heap.size w w'
set_option maxRecDepth 100000 in
set_option maxHeartbeats 4000000 in
theorem own2_any (x : Sub) (av qv : Value) (w : World) (ha : RI w av x.acks) (hq : RM w qv x.queue) (hz : Sized x) :
    Calls Tryd.prog 34 #[.agg (subC x av qv).toArray] w (GivesOwn2 w x) := by
  have hone := sub_all x (rl_one ha) (rl_one hq)
  obtain ⟨hz1, hz2⟩ := hz
  obtain ⟨Aa, ka, rfl, _, ham⟩ := ha.shape
  obtain ⟨Aq, kq, rfl, _, hqm⟩ := hq.shape
  unfold maxLen at ham hqm
  obtain ⟨Z, hZ⟩ : ∃ Z : List Value, Z = [.int .i64 0, .string ⟨#[]⟩, .string ⟨#[]⟩, .string ⟨#[]⟩, .int .i64 0, .int .i64 0, .int .i64 0, .slice none 0 0, .slice none 0 0, .string ⟨#[]⟩] := ⟨_, rfl⟩
  obtain ⟨W0, hW0⟩ : ∃ W0, W0 = (w.alloc (.cells (subC x (.slice Aa x.acks.length ka) (.slice Aq x.queue.length kq)).toArray 35)).alloc (.cells Z.toArray 35) := ⟨_, rfl⟩
  have hx0 : Wh W0 w.heap.size (subC x (.slice Aa x.acks.length ka) (.slice Aq x.queue.length kq)) 35 := by rw [hW0]; exact (Wh.new w _ _).alloc _
  have ho0 : Wh W0 (w.heap.size + 1) Z 35 := by
    have := Wh.new (w.alloc (.cells (subC x (.slice Aa x.acks.length ka) (.slice Aq x.queue.length kq)).toArray 35)) Z 35
    rw [World.size_alloc] at this
    rw [hW0]; exact this
  have hb0 : Below w.heap.size w W0 := by rw [hW0]; exact below_two w _ _ _ _
  have hs0 : W0.heap.size = w.heap.size + 2 := by rw [hW0]; simp
  have HCA := Lib.hid (cloneI2_any (.slice Aa x.acks.length ka) x.acks W0 (ha.below stays_ci hb0) (by omega))
  have HQ := Lib.hid hq
  have HX0 := Lib.hid hx0
  have HO0 := Lib.hid ho0
  have HB0 := Lib.hid hb0
  have HS0 := Lib.hid hs0
  have HL2 := Lib.hid hz2
  have HZL := Lib.hid (show Z.toArray.size = 10 by rw [hZ]; rfl)
  rw [hZ] at hW0
  obtain ⟨xx, hxx⟩ : ∃ xx, xx = x := ⟨_, rfl⟩
  rw [show GivesOwn2 w x = GivesOwn2 w xx by rw [hxx]]
  have HXX := Lib.hid hxx
  clear ha hq hx0 ho0 hb0 hs0 hz1 hz2 hZ hone hxx
  obtain ⟨id, name, topic, want, lease, most, floor, acks, queue, note⟩ := x
  simp only [subC] at HX0 hW0 HCA HQ ⊢
  go_enter Tryd.func34, Tryd.ntmps34
  go_wp2_with fail
  rw [← hW0]
  clear hW0
  refine HCA.out.mono ?_
  rintro e w1 ⟨u, rfl, hu, hb1⟩
  have hbt := HB0.out.trans (hb1.mono HB0.out.size)
  obtain ⟨Au, ku, rfl, _, hum⟩ := (rlt_ints hu).rl.shape
  unfold maxLen at hum
  have hx1 := HX0.out.below hb1
  have hx2 := hx1.set1 7 (.slice Au acks.length ku)
  simp only [List.set_cons_succ, List.set_cons_zero] at hx2
  have ho2 := (HO0.out.below hb1).set1Other (k := w.heap.size) (by omega) 7 (.slice Au acks.length ku)
  have f7 := hx1.frozen 7
  have c7 := hx1.bx.cell (i := 7) (by simp)
  simp only [List.getElem_cons_succ, List.getElem_cons_zero] at c7
  have hu2 := own_apart hu (grown_cell w1 w.heap.size 7 (.slice Au acks.length ku)) (fun k hk => by have := (hu.lt k hk).1; have := HS0.out; omega)
  have hbs := hbt.setCell (p := ⟨w.heap.size, 7, none⟩) (Nat.le_refl _) (.slice Au acks.length ku)
  have hsz2 : (w1.setCell ⟨w.heap.size, 7, none⟩ (.slice Au acks.length ku)).heap.size = w1.heap.size := by simp
  have hl1 := hx1.lt
  have hl2 := ho2.lt
  obtain ⟨W2, hW2⟩ : ∃ W2, W2 = w1.setCell ⟨w.heap.size, 7, none⟩ (.slice Au acks.length ku) := ⟨_, rfl⟩
  rw [← hW2] at hx2 ho2 hu2 hbs hsz2 hl2
  have c8 := hx2.bx.cell (i := 8) (by simp)
  simp only [List.getElem_cons_succ, List.getElem_cons_zero] at c8
  rw [hW2] at c8
  have HX2 := Lib.hid hx2
  have HO2 := Lib.hid ho2
  have HU2 := Lib.hid hu2
  have HB2 := Lib.hid hbs
  have HZ2 := Lib.hid hsz2
  have HL := Lib.hid hl1
  have HLB := Lib.hid hl2
  have HCM := Lib.hid (cloneM2_any (.slice Aq queue.length kq) queue W2 (HQ.out.below stays_cm (HB2.out.mono (Nat.le_refl _))) (Nat.le_trans (Nat.mul_le_mul_right 88 HL2.out) (by decide)))
  clear hu hb1 hbt hx1 hx2 ho2 hu2 hbs hsz2 hl1 hl2 HX0 HO0 HCA
  go_wp2_with fail
  rw [← hW2]
  clear hW2 c8 f7 c7
  refine HCM.out.mono ?_
  rintro e w3 ⟨u3, rfl, hu3, hb3⟩
  obtain ⟨A3, k3, rfl, _, hum3⟩ := (rlt_msgs hu3).rl.shape
  unfold maxLen at hum3
  have hbt3 := HB2.out.trans (hb3.mono HB2.out.size)
  have hx3 := HX2.out.below hb3
  have hx4 := hx3.set1 8 (.slice A3 queue.length k3)
  simp only [List.set_cons_succ, List.set_cons_zero] at hx4
  have hl0 := HLB.out
  have hs0 := HS0.out
  have ho4 := (HO2.out.below hb3).set1Other (k := w.heap.size) (by omega) 8 (.slice A3 queue.length k3)
  have f8 := hx3.frozen 8
  have c8 := hx3.bx.cell (i := 8) (by simp)
  simp only [List.getElem_cons_succ, List.getElem_cons_zero] at c8
  have hg4 := grown_cell w3 w.heap.size 8 (.slice A3 queue.length k3)
  have hu4 := own_apart hu3 hg4 (fun k hk => by have := (hu3.lt k hk).1; have := HX2.out.lt; omega)
  have hu5 := own_apart (own_below HU2.out hb3) hg4 (fun k hk => by have := (HU2.out.lt k hk).1; have := HS0.out; omega)
  have hbs4 := hbt3.setCell (p := ⟨w.heap.size, 8, none⟩) (Nat.le_refl _) (.slice A3 queue.length k3)
  have hr4 := hx4.range
  have hva : (#[.int .i64 id, sv name, sv topic, sv want, .int .i64 lease, .int .i64 most, .int .i64 floor, .slice Au acks.length ku, .slice A3 queue.length k3, sv note] : Array Value).all (·.oneCell') = true := sub_all ⟨id, name, topic, want, lease, most, floor, acks, queue, note⟩ (av := .slice Au acks.length ku) (qv := .slice A3 queue.length k3) rfl rfl
  have HR4 := Lib.hid hr4
  have HO4 := Lib.hid ho4
  have HU4 := Lib.hid hu4
  have HU5 := Lib.hid hu5
  have HB4 := Lib.hid hbs4
  have HVA := Lib.hid hva
  clear hu3 hb3 hx3 hx4 ho4 hg4 hu4 hu5 hbs4 hr4 hva hbt3
  go_wp2_with (first
    | (refine wpList_load_midG (by rfl) 35 (.tmp 1) rfl w.heap.size 0 rfl _ _ HR4.out Tryd.underlying35 rfl size35 ?_)
    | (refine wpList_store_row rfl 35 (.tmp 2) (.tmp 11) rfl (w.heap.size + 1) #[.int .i64 id, sv name, sv topic, sv want, .int .i64 lease, .int .i64 most, .int .i64 floor, .slice Au acks.length ku, .slice A3 queue.length k3, sv note] rfl rfl 35 Z.toArray HO4.out size35 HZL.out HVA.out ?_))
  refine bodyPost_ret (results_cell_row rfl _ _ (w.heap.size + 1) 35 #[.int .i64 id, sv name, sv topic, sv want, .int .i64 lease, .int .i64 most, .int .i64 floor, .slice Au acks.length ku, .slice A3 queue.length k3, sv note] (0, 0) _ rfl (HO4.out.set [.int .i64 id, sv name, sv topic, sv want, .int .i64 lease, .int .i64 most, .int .i64 floor, .slice Au acks.length ku, .slice A3 queue.length k3, sv note]) Tryd.underlying35 rfl size35) rfl ?_
  rw [HXX.out]
  have hgr := grown_row (w3.setCell ⟨w.heap.size, 8, none⟩ (.slice A3 queue.length k3)) (w.heap.size + 1) #[.int .i64 id, sv name, sv topic, sv want, .int .i64 lease, .int .i64 most, .int .i64 floor, .slice Au acks.length ku, .slice A3 queue.length k3, sv note]
  have hs0 := HS0.out
  have hl2 := HX2.out.lt
  have hh2 := HZ2.out
  refine ⟨_, _, rfl, ?_, ?_, below_setRow HB4.out (by omega) #[.int .i64 id, sv name, sv topic, sv want, .int .i64 lease, .int .i64 most, .int .i64 floor, .slice Au acks.length ku, .slice A3 queue.length k3, sv note]⟩
  · exact own_base (own_apart HU5.out hgr (fun k hk => by have := (HU5.out.lt k hk).1; omega)) (by omega)
  · exact own_base (own_apart HU4.out hgr (fun k hk => by have := (HU4.out.lt k hk).1; have := HLB.out; omega)) (by omega)
end Go.Proofs.YtcmkmdghekkkhaaDoor
