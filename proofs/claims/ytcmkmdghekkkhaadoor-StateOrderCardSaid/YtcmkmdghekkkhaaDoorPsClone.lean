/-
  The contracts of slices.Clone of numbers and of messages, and of the program's own (layer state).
-/
import Derived.Test.YtcmkmdghekkkhaaDoorTsK
import Derived.Test.YtcmkmdghekkkhaaDoorTsSettleM
set_option linter.unusedVariables false
namespace Go.Ts
open Go Go.RowKit Go.Rst Go.Tp
/-- How many may be copied at once. -/
def Sized (x : Sub) : Prop := x.acks.length ≤ 17592186043904 ∧ x.queue.length ≤ 1599289640354
theorem Sized.few {x : Sub} (h1 : x.acks.length ≤ 1000000) (h2 : x.queue.length ≤ 1000000) : Sized x := ⟨by omega, by omega⟩
theorem src_rl {α : Type} {sz : Nat} {f : α → List Value} (hlen : ∀ x, (f x).length = sz) (hone : ∀ x, ∀ u ∈ f x, u.oneCell' = true) {P : Program} {w : World} {v : Value} {xs : List α} (h : RL sz (fun _ x cs => cs = f x) w v xs) {tx e : TypeId} (hk : P.underlying tx = some (.slice e)) :
    Src P sz tx v xs.length (xs.map f).flatten w := by
  obtain ⟨A, c, rfl, h2, h3, h4⟩ := h
  have hfl : (xs.map f).flatten.length = xs.length * sz := by
    rw [flatten_len _ (fun cs hcs => by obtain ⟨x, _, rfl⟩ := List.mem_map.1 hcs; exact hlen x), List.length_map]
  have hall : ∀ u ∈ (xs.map f).flatten, u.oneCell' = true := fun u hu => by
    obtain ⟨cs, hcs, hu⟩ := List.mem_flatten.1 hu
    obtain ⟨x, _, rfl⟩ := List.mem_map.1 hcs
    exact hone x u hu
  rcases h4 with h4 | ⟨b, off, rfl, hb, hj⟩
  · subst h4
    cases A with
    | none => exact Src.ofNil _ hk c
    | some a => exact Src.ofSlice _ hk a 0 c [] (by simp) (fun j x hj => by simp at hj) (fun u hu => by cases hu)
  · refine Src.ofSlice _ hk ⟨b, off, none⟩ _ c _ hfl (fun j x hx => ?_) hall
    rw [Addr.add_lit]
    have hlt := (List.getElem?_eq_some_iff.1 hx).1
    rw [hfl] at hlt
    have hsz : 0 < sz := by
      rcases Nat.eq_zero_or_pos sz with h0 | h0
      · rw [h0] at hlt; omega
      · exact h0
    have hq : j / sz < xs.length := by rw [Nat.div_lt_iff_lt_mul hsz]; exact hlt
    have hr := Nat.mod_lt j hsz
    obtain ⟨cs, hcs, hcell⟩ := hj (j / sz) hq
    have hg := flatten_get (sz := sz) (xs.map f) (fun cs hcs => by obtain ⟨x, _, rfl⟩ := List.mem_map.1 hcs; exact hlen x) (j / sz) (by simpa using hq) (j % sz) (by rw [List.getElem_map, hlen]; exact hr)
    have hjj : j / sz * sz + j % sz = j := by rw [Nat.mul_comm]; exact Nat.div_add_mod j sz
    rw [hjj, hx] at hg
    injection hg with hg
    have hc := hcell (j % sz) (by rw [hcs, hlen]; exact hr)
    rw [show off + j = off + j / sz * sz + j % sz by omega, hc, hg]
    subst hcs
    simp [List.getElem_map]
theorem src_ints {P : Program} {w : World} {v : Value} {xs : List Int} (h : RI w v xs) {tx e : TypeId} (hk : P.underlying tx = some (.slice e)) : Src P 1 tx v xs.length (xs.map fun n => [Value.int .i64 n]).flatten w :=
  src_rl (f := fun n => [Value.int .i64 n]) (fun _ => rfl) (fun x u hu => by rw [List.mem_singleton.1 hu]; rfl) h hk
theorem msg_one (m : Msg) : ∀ u ∈ msgC m, u.oneCell' = true := by
  intro u hu
  simp only [msgC, List.mem_cons, List.not_mem_nil, or_false] at hu
  rcases hu with rfl | rfl | rfl | rfl | rfl | rfl | rfl | rfl <;> rfl
theorem src_msgs {P : Program} {w : World} {v : Value} {xs : List Msg} (h : RM w v xs) {tx e : TypeId} (hk : P.underlying tx = some (.slice e)) : Src P 8 tx v xs.length (xs.map msgC).flatten w :=
  src_rl (f := msgC) (fun _ => rfl) msg_one h hk
theorem rlt_ints {w : World} {base : Nat} {e : TypeId} {v : Value} {xs : List Int} (h : w.ownsRow base e 1 v xs.length (xs.map fun n => [Value.int .i64 n]).flatten) : RLt e 1 CI w v xs := by
  refine RLt.own h (by simp) (fun cs hcs => ?_) (fun j h1 h2 => ?_)
  · obtain ⟨n, _, rfl⟩ := List.mem_map.1 hcs; rfl
  · rw [List.getElem_map]; rfl
theorem rlt_msgs {w : World} {base : Nat} {e : TypeId} {v : Value} {xs : List Msg} (h : w.ownsRow base e 8 v xs.length (xs.map msgC).flatten) : RLt e 8 CM w v xs := by
  refine RLt.own h (by simp) (fun cs hcs => ?_) (fun j h1 h2 => ?_)
  · obtain ⟨n, _, rfl⟩ := List.mem_map.1 hcs; rfl
  · rw [List.getElem_map]; rfl
end Go.Ts
namespace Go.Proofs.YtcmkmdghekkkhaaDoor
open Go.RowKit Go.Rst Go.Tp Go.Ts
theorem eql_nilS (w : World) (t e : TypeId) (a : Option Addr) (l c : Nat) (h : Tryd.prog.underlying t = some (.slice e)) : (binOp .eql t (.slice a l c) (.slice none 0 0)).run Tryd.prog w = .ok (.bool a.isNone) w := by
  have := run_equal_slice_nil (P := Tryd.prog) w t e a l c h
  simp [binOp, this]
theorem own_emptyS (w : World) (e : TypeId) (size : Nat) : (w.alloc (Obj.cells #[] e)).ownsRow w.heap.size e size (.slice (some ⟨w.heap.size, 0, none⟩) 0 0) 0 [] :=
  ⟨by simp, .inr ⟨w.heap.size, 0, #[], rfl, Nat.le_refl _, heap_alloc_new w _, Nat.le_refl _, Nat.zero_le _, by simp, by simp⟩⟩
theorem infoMsg : (Tryd.prog.info? 55).map (fun i => (i.zero, i.size, i.bytes)) = some (some (.agg #[.int .i64 0, .string .empty, .string .empty, .int .i64 0, .int .i64 0, .bool false, .string .empty, .int .i64 0]), 8, 88) := by kernel_rfl

set_option maxRecDepth 100000 in
set_option maxHeartbeats 1000000 in
theorem cloneI_any (v : Value) (xs : List Int) (w : World) (h : RI w v xs) (hl : xs.length * 8 ≤ 140737488355328) :
    Calls Tryd.prog 55 #[v] w fun e w' => ∃ u, e = .returned u ∧ RLt 3 1 CI w' u xs ∧ Below w.heap.size w w' := by
  have HS := Lib.hid (src_ints (P := Tryd.prog) (h.below stays_ci ((Below.refl w.heap.size w).alloc (Nat.le_refl _) (Obj.cells #[] 3))) Tryd.underlying32)
  have HLM := Lib.hid (show 0 + xs.length ≤ maxLen by unfold maxLen; omega)
  have HLB := Lib.hid (show (0 + xs.length) * 8 ≤ 140737488355328 by omega)
  have HO := Lib.hid (own_emptyS w 3 1)
  obtain ⟨A, c, rfl, _, _, h3⟩ := h
  cases A with
  | none =>
    have hl0 : xs = [] := by
      rcases h3 with h3 | ⟨b, off, h4, _⟩
      · exact h3
      · cases h4
    subst hl0
    have e1 : (binOp .eql 32 (.slice none 0 c) (.slice none 0 0)).run Tryd.prog w = .ok (.bool true) w := eql_nilS w 32 3 none 0 c Tryd.underlying32
    rw [List.length_nil]
    clear h3
    go_enter Tryd.func55, Tryd.ntmps55
    go_wp2
    go_ret
    exact ⟨_, rfl, RLt.nil_ _ _ _ _ (by decide), Below.refl _ _⟩
  | some a =>
    have e1 : (binOp .eql 32 (.slice (some a) xs.length c) (.slice none 0 0)).run Tryd.prog w = .ok (.bool false) w := eql_nilS w 32 3 (some a) xs.length c Tryd.underlying32
    clear h3
    go_enter Tryd.func55, Tryd.ntmps55
    go_wp2_with (at_builtin; refine wpList_own rfl (.tmp 5) (.tmp 6) 32 32 rfl w.heap.size 3 (.int .i64 0) 1 8 Tryd.underlying32 infoNum rfl rfl HO.out rfl HS.out ((Below.refl w.heap.size w).alloc (Nat.le_refl _) _) (Nat.le_refl _) HLM.out HLB.out (by simp) ?_)
    intro v5 w5 hown5 hbel5 _
    have HO5 := Lib.hid hown5
    have HB5 := Lib.hid hbel5
    obtain ⟨A5, c5, rfl, _⟩ := own_shape hown5
    clear hown5 hbel5
    go_wp2
    go_ret
    exact ⟨_, rfl, rlt_ints HO5.out, HB5.out⟩

set_option maxRecDepth 100000 in
set_option maxHeartbeats 1000000 in
theorem cloneM_any (v : Value) (xs : List Msg) (w : World) (h : RM w v xs) (hl : xs.length * 88 ≤ 140737488355328) :
    Calls Tryd.prog 56 #[v] w fun e w' => ∃ u, e = .returned u ∧ RLt 55 8 CM w' u xs ∧ Below w.heap.size w w' := by
  have HS := Lib.hid (src_msgs (P := Tryd.prog) (h.below stays_cm ((Below.refl w.heap.size w).alloc (Nat.le_refl _) (Obj.cells #[] 55))) Tryd.underlying33)
  have HLM := Lib.hid (show 0 + xs.length ≤ maxLen by unfold maxLen; omega)
  have HLB := Lib.hid (show (0 + xs.length) * 88 ≤ 140737488355328 by omega)
  have HO := Lib.hid (own_emptyS w 55 8)
  obtain ⟨A, c, rfl, _, _, h3⟩ := h
  cases A with
  | none =>
    have hl0 : xs = [] := by
      rcases h3 with h3 | ⟨b, off, h4, _⟩
      · exact h3
      · cases h4
    subst hl0
    have e1 : (binOp .eql 33 (.slice none 0 c) (.slice none 0 0)).run Tryd.prog w = .ok (.bool true) w := eql_nilS w 33 55 none 0 c Tryd.underlying33
    rw [List.length_nil]
    clear h3
    go_enter Tryd.func56, Tryd.ntmps56
    go_wp2
    go_ret
    exact ⟨_, rfl, RLt.nil_ _ _ _ _ (by decide), Below.refl _ _⟩
  | some a =>
    have e1 : (binOp .eql 33 (.slice (some a) xs.length c) (.slice none 0 0)).run Tryd.prog w = .ok (.bool false) w := eql_nilS w 33 55 (some a) xs.length c Tryd.underlying33
    clear h3
    go_enter Tryd.func56, Tryd.ntmps56
    go_wp2_with (at_builtin; refine wpList_own rfl (.tmp 5) (.tmp 6) 33 33 rfl w.heap.size 55 (.agg #[.int .i64 0, .string .empty, .string .empty, .int .i64 0, .int .i64 0, .bool false, .string .empty, .int .i64 0]) 8 88 Tryd.underlying33 infoMsg rfl rfl HO.out rfl HS.out ((Below.refl w.heap.size w).alloc (Nat.le_refl _) _) (Nat.le_refl _) HLM.out HLB.out (by simp) ?_)
    intro v5 w5 hown5 hbel5 _
    have HO5 := Lib.hid hown5
    have HB5 := Lib.hid hbel5
    obtain ⟨A5, c5, rfl, _⟩ := own_shape hown5
    clear hown5 hbel5
    go_wp2
    go_ret
    exact ⟨_, rfl, rlt_msgs HO5.out, HB5.out⟩

/-- A subscription of the call's own, by value. -/
def GivesOwn (w : World) (x : Sub) (e : Ending) (w' : World) : Prop := ∃ cs, e = .returned (.agg cs.toArray) ∧ CN w' x cs ∧ Below w.heap.size w w'
set_option maxRecDepth 100000 in
set_option maxHeartbeats 4000000 in
theorem own_any (x : Sub) (av qv : Value) (w : World) (ha : RI w av x.acks) (hq : RM w qv x.queue) (hz : Sized x) :
    Calls Tryd.prog 34 #[.agg (subC x av qv).toArray] w (GivesOwn w x) := by
  have hone := sub_all x (rl_one ha) (rl_one hq)
  obtain ⟨hz1, hz2⟩ := hz
  obtain ⟨Aa, ka, rfl, _, ham⟩ := ha.shape
  obtain ⟨Aq, kq, rfl, _, hqm⟩ := hq.shape
  unfold maxLen at ham hqm
  obtain ⟨Z, hZ⟩ : ∃ Z : List Value, Z = [.int .i64 0, .string ⟨#[]⟩, .string ⟨#[]⟩, .string ⟨#[]⟩, .int .i64 0, .int .i64 0, .int .i64 0, .slice none 0 0, .slice none 0 0, .string ⟨#[]⟩] := ⟨_, rfl⟩
  obtain ⟨W0, hW0⟩ : ∃ W0, W0 = (w.alloc (.cells (subC x (.slice Aa x.acks.length ka) (.slice Aq x.queue.length kq)).toArray 35)).alloc (.cells Z.toArray 35) := ⟨_, rfl⟩
  have hx0 : Wh W0 w.heap.size (subC x (.slice Aa x.acks.length ka) (.slice Aq x.queue.length kq)) 35 := by rw [hW0]; exact (Wh.new w _ _).alloc _
  have ho0 : Wh W0 (w.heap.size + 1) Z 35 := by
    have := Wh.new (w.alloc (.cells (subC x (.slice Aa x.acks.length ka) (.slice Aq x.queue.length kq)).toArray 35)) Z 35
    rw [World.size_alloc] at this
    rw [hW0]; exact this
  have hb0 : Below w.heap.size w W0 := by rw [hW0]; exact below_two w _ _ _ _
  have hs0 : W0.heap.size = w.heap.size + 2 := by rw [hW0]; simp
  have HCA := Lib.hid (cloneI_any (.slice Aa x.acks.length ka) x.acks W0 (ha.below stays_ci hb0) (by omega))
  have HQ := Lib.hid hq
  have HX0 := Lib.hid hx0
  have HO0 := Lib.hid ho0
  have HB0 := Lib.hid hb0
  have HS0 := Lib.hid hs0
  have HL2 := Lib.hid hz2
  have HZL := Lib.hid (show Z.toArray.size = 10 by rw [hZ]; rfl)
  rw [hZ] at hW0
  obtain ⟨xx, hxx⟩ : ∃ xx, xx = x := ⟨_, rfl⟩
  rw [show GivesOwn w x = GivesOwn w xx by rw [hxx]]
  have HXX := Lib.hid hxx
  clear ha hq hx0 ho0 hb0 hs0 hz1 hz2 hZ hone hxx
  obtain ⟨id, name, topic, want, lease, most, floor, acks, queue, note⟩ := x
  simp only [subC] at HX0 hW0 HCA HQ ⊢
  go_enter Tryd.func34, Tryd.ntmps34
  go_wp2_with fail
  rw [← hW0]
  clear hW0
  refine HCA.out.mono ?_
  rintro e w1 ⟨u, rfl, hu, hb1⟩
  have hbt := HB0.out.trans (hb1.mono HB0.out.size)
  obtain ⟨Au, ku, rfl, _, hum⟩ := hu.rl.shape
  unfold maxLen at hum
  have hx1 := HX0.out.below hb1
  have hx2 := hx1.set1 7 (.slice Au acks.length ku)
  simp only [List.set_cons_succ, List.set_cons_zero] at hx2
  have ho2 := (HO0.out.below hb1).set1Other (k := w.heap.size) (by omega) 7 (.slice Au acks.length ku)
  have f7 := hx1.frozen 7
  have c7 := hx1.bx.cell (i := 7) (by simp)
  simp only [List.getElem_cons_succ, List.getElem_cons_zero] at c7
  have hu2 := hu.grown fixed_ci (grown_cell w1 w.heap.size 7 (.slice Au acks.length ku)) (fun g e => by cases e; exact ⟨_, _, hx1, by decide⟩)
  have hbs := hbt.setCell (p := ⟨w.heap.size, 7, none⟩) (Nat.le_refl _) (.slice Au acks.length ku)
  have hsz2 : (w1.setCell ⟨w.heap.size, 7, none⟩ (.slice Au acks.length ku)).heap.size = w1.heap.size := by simp
  have hl1 := hx1.lt
  have hl2 := ho2.lt
  obtain ⟨W2, hW2⟩ : ∃ W2, W2 = w1.setCell ⟨w.heap.size, 7, none⟩ (.slice Au acks.length ku) := ⟨_, rfl⟩
  rw [← hW2] at hx2 ho2 hu2 hbs hsz2 hl2
  have c8 := hx2.bx.cell (i := 8) (by simp)
  simp only [List.getElem_cons_succ, List.getElem_cons_zero] at c8
  rw [hW2] at c8
  have HX2 := Lib.hid hx2
  have HO2 := Lib.hid ho2
  have HU2 := Lib.hid hu2
  have HB2 := Lib.hid hbs
  have HZ2 := Lib.hid hsz2
  have HL := Lib.hid hl1
  have HLB := Lib.hid hl2
  have HCM := Lib.hid (cloneM_any (.slice Aq queue.length kq) queue W2 (HQ.out.below stays_cm (HB2.out.mono (Nat.le_refl _))) (Nat.le_trans (Nat.mul_le_mul_right 88 HL2.out) (by decide)))
  clear hu hb1 hbt hx1 hx2 ho2 hu2 hbs hsz2 hl1 hl2 HX0 HO0 HCA
  go_wp2_with fail
  rw [← hW2]
  clear hW2 c8 f7 c7
  refine HCM.out.mono ?_
  rintro e w3 ⟨u3, rfl, hu3, hb3⟩
  obtain ⟨A3, k3, rfl, _, hum3⟩ := hu3.rl.shape
  unfold maxLen at hum3
  have hbt3 := HB2.out.trans (hb3.mono HB2.out.size)
  have hx3 := HX2.out.below hb3
  have hx4 := hx3.set1 8 (.slice A3 queue.length k3)
  simp only [List.set_cons_succ, List.set_cons_zero] at hx4
  have hl0 := HLB.out
  have hs0 := HS0.out
  have ho4 := (HO2.out.below hb3).set1Other (k := w.heap.size) (by omega) 8 (.slice A3 queue.length k3)
  have f8 := hx3.frozen 8
  have c8 := hx3.bx.cell (i := 8) (by simp)
  simp only [List.getElem_cons_succ, List.getElem_cons_zero] at c8
  have hg4 := grown_cell w3 w.heap.size 8 (.slice A3 queue.length k3)
  have hu4 := hu3.grown fixed_cm hg4 (fun g e => by cases e; exact ⟨_, _, hx3, by decide⟩)
  have hu5 := (HU2.out.below fixed_ci hb3).grown fixed_ci hg4 (fun g e => by cases e; exact ⟨_, _, hx3, by decide⟩)
  have hbs4 := hbt3.setCell (p := ⟨w.heap.size, 8, none⟩) (Nat.le_refl _) (.slice A3 queue.length k3)
  have hr4 := hx4.range
  have hva : (#[.int .i64 id, sv name, sv topic, sv want, .int .i64 lease, .int .i64 most, .int .i64 floor, .slice Au acks.length ku, .slice A3 queue.length k3, sv note] : Array Value).all (·.oneCell') = true := sub_all ⟨id, name, topic, want, lease, most, floor, acks, queue, note⟩ (av := .slice Au acks.length ku) (qv := .slice A3 queue.length k3) rfl rfl
  have HR4 := Lib.hid hr4
  have HO4 := Lib.hid ho4
  have HU4 := Lib.hid hu4
  have HU5 := Lib.hid hu5
  have HB4 := Lib.hid hbs4
  have HVA := Lib.hid hva
  clear hu3 hb3 hx3 hx4 ho4 hg4 hu4 hu5 hbs4 hr4 hva hbt3
  go_wp2_with (first
    | (refine wpList_load_midG (by rfl) 35 (.tmp 1) rfl w.heap.size 0 rfl _ _ HR4.out Tryd.underlying35 rfl size35 ?_)
    | (refine wpList_store_row rfl 35 (.tmp 2) (.tmp 11) rfl (w.heap.size + 1) #[.int .i64 id, sv name, sv topic, sv want, .int .i64 lease, .int .i64 most, .int .i64 floor, .slice Au acks.length ku, .slice A3 queue.length k3, sv note] rfl rfl 35 Z.toArray HO4.out size35 HZL.out HVA.out ?_))
  refine bodyPost_ret (results_cell_row rfl _ _ (w.heap.size + 1) 35 #[.int .i64 id, sv name, sv topic, sv want, .int .i64 lease, .int .i64 most, .int .i64 floor, .slice Au acks.length ku, .slice A3 queue.length k3, sv note] (0, 0) _ rfl (HO4.out.set [.int .i64 id, sv name, sv topic, sv want, .int .i64 lease, .int .i64 most, .int .i64 floor, .slice Au acks.length ku, .slice A3 queue.length k3, sv note]) Tryd.underlying35 rfl size35) rfl ?_
  rw [HXX.out]
  have hgr := grown_row (w3.setCell ⟨w.heap.size, 8, none⟩ (.slice A3 queue.length k3)) (w.heap.size + 1) #[.int .i64 id, sv name, sv topic, sv want, .int .i64 lease, .int .i64 most, .int .i64 floor, .slice Au acks.length ku, .slice A3 queue.length k3, sv note]
  refine ⟨_, rfl, ⟨_, _, rfl, ?_, ?_⟩, below_setRow HB4.out (by omega) #[.int .i64 id, sv name, sv topic, sv want, .int .i64 lease, .int .i64 most, .int .i64 floor, .slice Au acks.length ku, .slice A3 queue.length k3, sv note]⟩
  · exact HU5.out.grown fixed_ci hgr (fun g e => by cases e; exact ⟨_, _, HO4.out, by decide⟩)
  · exact HU4.out.grown fixed_cm hgr (fun g e => by cases e; exact ⟨_, _, HO4.out, by decide⟩)
end Go.Proofs.YtcmkmdghekkkhaaDoor
