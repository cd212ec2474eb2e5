/-
  Words for rows of the call's own in which single messages are laid anew (layer model). No program but the seat's types.; A row of subscriptions copied, and words for rows of subscriptions whose own rows are the call's own (layer model).; The contract of the program's Find, its rows its own (layer model).; The contract of the program's back (layer model).
-/
import Derived.Deep.Onto
import Derived.Test.YtodckdkbheapfaaGreatKOBA
import Derived.Test.YtodckdkbheapfaaGreatKOCC
set_option linter.unusedVariables false
set_option linter.unusedVariables false
namespace Go.Proofs.YtodckdkbheapfaaGreat
open Go.RowKit Go.Rst Go.Tp Go.Ts Go.Md
abbrev OwnA (w : World) (B : Nat) (v : Value) (l : List Int) : Prop := w.ownsRow B 3 1 v l.length (l.map fun n => [Value.int .i64 n]).flatten
abbrev OwnQ (w : World) (B : Nat) (v : Value) (q : List Msg) : Prop := w.ownsRow B 45 8 v q.length (q.map msgC).flatten
def setL : List Value → Nat → List Value → List Value
  | xs, _, [] => xs
  | xs, o, v :: r => setL (xs.set o v) (o + 1) r
theorem setL_mid : ∀ (vs a b c : List Value), b.length = vs.length → setL (a ++ (b ++ c)) a.length vs = a ++ (vs ++ c)
  | [], a, b, c, h => by
    obtain rfl := List.eq_nil_of_length_eq_zero h
    rfl
  | v :: r, a, [], c, h => by simp at h
  | v :: r, a, x :: b, c, h => by
    have ih := setL_mid r (a ++ [v]) b c (by simpa using h)
    unfold setL
    rw [List.cons_append, List.set_append_right _ _ (Nat.le_refl _), Nat.sub_self, List.set_cons_zero]
    simpa using ih
theorem own_setCells {B : Nat} {e : TypeId} {size g n cap : Nat} : ∀ (vs : List Value) (o : Nat) (w : World) (xs : List Value), w.ownsRow B e size (.slice (some ⟨g, 0, none⟩) n cap) n xs →
    (w.setCells g o vs).ownsRow B e size (.slice (some ⟨g, 0, none⟩) n cap) n (setL xs o vs) ∧ w.grownBy (w.setCells g o vs) (some g)
  | [], o, w, xs, h => ⟨h, World.grownBy.refl _ _⟩
  | v :: r, o, w, xs, h => by
    obtain ⟨h1, h2⟩ := h.stored o v
    obtain ⟨h3, h4⟩ := own_setCells r (o + 1) _ _ h1
    exact ⟨h3, ⟨h4.os.trans h2.os, h4.tape.trans h2.tape, h4.output.trans h2.output, Nat.le_trans h2.size h4.size, fun k hk hne => (h4.block k (Nat.lt_of_lt_of_le hk h2.size) hne).trans (h2.block k hk hne)⟩⟩
theorem flat_len (q : List Msg) : (q.map msgC).flatten.length = q.length * 8 := by
  rw [flatten_len (sz := 8) _ (fun cs hcs => by obtain ⟨m, _, rfl⟩ := List.mem_map.1 hcs; rfl), List.length_map]
theorem setL_msg {q : List Msg} {i : Nat} (hi : i < q.length) (m : Msg) : setL (q.map msgC).flatten (i * 8) (msgC m) = ((q.set i m).map msgC).flatten := by
  have h1 : q = q.take i ++ q[i] :: q.drop (i + 1) := by rw [List.getElem_cons_drop, List.take_append_drop]
  have h2 : q.set i m = q.take i ++ m :: q.drop (i + 1) := List.set_eq_take_append_cons_drop .. |>.trans (by rw [if_pos hi])
  have h3 : (q.map msgC).flatten = ((q.take i).map msgC).flatten ++ (msgC q[i] ++ ((q.drop (i + 1)).map msgC).flatten) := by
    conv => lhs; rw [h1]
    rw [List.map_append, List.flatten_append, List.map_cons, List.flatten_cons]
  rw [h3, h2]
  have h4 : ((q.take i).map msgC).flatten.length = i * 8 := by rw [flat_len, List.length_take, Nat.min_eq_left (by omega)]
  rw [← h4, setL_mid (msgC m) _ (msgC q[i]) _ rfl]
  rw [List.map_append, List.flatten_append, List.map_cons, List.flatten_cons]
theorem OwnQ.set_ {w : World} {B g c : Nat} {q : List Msg} (h : OwnQ w B (.slice (some ⟨g, 0, none⟩) q.length c) q) {i : Nat} (hi : i < q.length) (m : Msg) :
    OwnQ (w.setCells g (i * 8) (msgC m)) B (.slice (some ⟨g, 0, none⟩) q.length c) (q.set i m) ∧ w.grownBy (w.setCells g (i * 8) (msgC m)) (some g) := by
  obtain ⟨h1, h2⟩ := own_setCells (msgC m) (i * 8) w _ h
  rw [setL_msg hi] at h1
  refine ⟨?_, h2⟩
  show World.ownsRow _ _ _ _ _ (q.set i m).length _
  rw [List.length_set]
  exact h1
theorem OwnQ.rm {w : World} {B : Nat} {v : Value} {q : List Msg} (h : OwnQ w B v q) : RM w v q := own_rm h
theorem OwnA.ri {w : World} {B : Nat} {v : Value} {l : List Int} (h : OwnA w B v l) : Go.Ts.RI w v l := (rlt_ints h).rl
theorem OwnQ.form {w : World} {B : Nat} {v : Value} {q : List Msg} (h : OwnQ w B v q) (hn : 0 < q.length) : ∃ g c, v = .slice (some ⟨g, 0, none⟩) q.length c ∧ B ≤ g ∧ g < w.heap.size ∧ q.length ≤ c ∧ c ≤ maxLen := by
  rcases h.2 with ⟨_, h0⟩ | ⟨g, cap, cur, rfl, hb, hg, hl, hm, _⟩
  · omega
  · exact ⟨g, cap, rfl, hb, (Array.getElem?_eq_some_iff.1 hg).1, hl, hm⟩
theorem OwnQ.there {w : World} {B g c : Nat} {q : List Msg} (h : OwnQ w B (.slice (some ⟨g, 0, none⟩) q.length c) q) {i : Nat} (hi : i < q.length) : w.there g (i * 8) 8 := fun j hj => by
  have hk : i * 8 + j < q.length * 8 := by omega
  refine ⟨?_, h.frozenAt _⟩
  rw [h.cellAt _ hk, List.getElem?_eq_getElem (by rw [flat_len]; exact hk)]
  rfl
theorem OwnQ.at_ {w : World} {B g c : Nat} {q : List Msg} (h : OwnQ w B (.slice (some ⟨g, 0, none⟩) q.length c) q) {i : Nat} (hi : i < q.length) : w.rangeAt g (i * 8) (msgC q[i]) := fun j v hv => by
  have hj : j < 8 := by obtain ⟨hj, _⟩ := List.getElem?_eq_some_iff.1 hv; exact hj
  have hk : i * 8 + j < q.length * 8 := by omega
  rw [h.cellAt _ hk, flatten_get (sz := 8) (q.map msgC) (fun cs hcs => by obtain ⟨m, _, rfl⟩ := List.mem_map.1 hcs; rfl) i (by simpa using hi) j (by rw [List.getElem_map]; exact hj)]
  obtain ⟨_, rfl⟩ := List.getElem?_eq_some_iff.1 hv
  congr 1
  simp only [List.getElem_map]
theorem own_ne_wh {w : World} {B : Nat} {e t : TypeId} {sz : Nat} {v : Value} {n : Nat} {xs : List Value} (h : w.ownsRow B e sz v n xs) {g : Nat} {cs : List Value} (hw : Wh w g cs t) (hne : e ≠ t) : v.ownBlock ≠ some g := by
  intro hv
  rcases h.2 with ⟨rfl, _⟩ | ⟨g', cap, cur, rfl, hb, hg, _⟩
  · cases hv
  · simp only [Value.ownBlock, Option.some.injEq] at hv
    subst hv
    have := hg.symm.trans hw
    injection this with this
    injection this with _ h2
    exact hne h2
theorem own_ne_own {w : World} {B B2 : Nat} {e t : TypeId} {sz sz2 : Nat} {v u : Value} {n m : Nat} {xs ys : List Value} (h : w.ownsRow B e sz v n xs) (h2 : w.ownsRow B2 t sz2 u m ys) (hne : e ≠ t) : v.ownBlock = none ∨ v.ownBlock ≠ u.ownBlock := by
  rcases h.2 with ⟨rfl, _⟩ | ⟨g', cap, cur, rfl, hb, hg, _⟩
  · exact .inl rfl
  · right
    rcases h2.2 with ⟨rfl, _⟩ | ⟨g2, cap2, cur2, rfl, hb2, hg2, _⟩
    · simp [Value.ownBlock]
    · simp only [Value.ownBlock, ne_eq, Option.some.injEq]
      rintro rfl
      have := hg.symm.trans hg2
      injection this with this
      injection this with _ h2
      exact hne h2
theorem own_below {w w' : World} {B : Nat} {e : TypeId} {sz : Nat} {v : Value} {n : Nat} {xs : List Value} (h : w.ownsRow B e sz v n xs) (hb : Below w.heap.size w w') : w'.ownsRow B e sz v n xs := by
  cases hv : v.ownBlock with
  | none => exact h.kept (row := none) ⟨hb.os, hb.tape, hb.output, hb.size, fun k hk _ => hb.block k hk⟩ (.inl hv)
  | some g => exact h.kept (row := none) ⟨hb.os, hb.tape, hb.output, hb.size, fun k hk _ => hb.block k hk⟩ (.inr (by rw [hv]; simp))
theorem Wh.cv {w : World} {g : Nat} {cs : List Value} {t : TypeId} (h : Wh w g cs t) (i : Nat) {v : Value} (hv : cs[i]? = some v) : w.cell? ⟨g, i, none⟩ = some v := by
  obtain ⟨hi, e⟩ := List.getElem?_eq_some_iff.1 hv
  rw [h.bx.cell hi, e]
theorem Wh.part {w : World} {g : Nat} {cs : List Value} {t : TypeId} (h : Wh w g cs t) (o : Nat) (ds : List Value) (hd : ∀ j v, ds[j]? = some v → cs[o + j]? = some v) : w.rangeAt g o ds := fun j v hv => by
  obtain ⟨hj, e⟩ := List.getElem?_eq_some_iff.1 (hd j v hv)
  rw [h.bx.cell hj, e]
theorem pre_part (a b : List Value) : ∀ j v, a[j]? = some v → (a ++ b)[0 + j]? = some v := fun j v h => by
  obtain ⟨hj, _⟩ := List.getElem?_eq_some_iff.1 h
  rw [Nat.zero_add, List.getElem?_append_left hj, h]
theorem below_grow {B : Nat} {w w2 w3 : World} {row : Option Nat} (h : Below B w w2) (hg : w2.grownBy w3 row) (hr : ∀ k, row = some k → B ≤ k) (hB : B ≤ w2.heap.size) : Below B w w3 := below_grown h hB hg hr
end Go.Proofs.YtodckdkbheapfaaGreat
set_option linter.unusedVariables false
namespace Go.Proofs.YtodckdkbheapfaaGreat
open Go.RowKit Go.Rst Go.Tp Go.Ts Go.Md
abbrev Tri := Sub × Value × Value
def tC (z : Tri) : List Value := subC z.1 z.2.1 z.2.2
abbrev RT (w : World) (v : Value) (zs : List Tri) : Prop := RL 10 (fun _ z cs => cs = tC z) w v zs
def ReadT (w : World) (z : Tri) : Prop := Go.Ts.RI w z.2.1 z.1.acks ∧ RM w z.2.2 z.1.queue
theorem ReadT.below {w w' : World} {z : Tri} (h : ReadT w z) (hb : Below w.heap.size w w') : ReadT w' z := ⟨h.1.below stays_ci hb, h.2.below stays_cm hb⟩
theorem tri_one {w : World} {z : Tri} (h : ReadT w z) : ∀ u ∈ tC z, u.oneCell' = true := by
  have := sub_all z.1 (rl_one h.1) (rl_one h.2)
  intro u hu
  have h2 := Array.all_eq_true_iff_forall_mem.1 this u (by simpa [tC] using hu)
  exact h2
theorem rs_tri {w : World} {v : Value} {xs : List Sub} (h : RS w v xs) : ∃ zs : List Tri, zs.map (·.1) = xs ∧ RT w v zs ∧ ∀ z ∈ zs, ReadT w z := by
  obtain ⟨A, c, rfl, h2, h3, h4⟩ := h
  rcases h4 with rfl | ⟨b, off, rfl, hb, hj⟩
  · exact ⟨[], rfl, ⟨A, c, rfl, Nat.zero_le _, h3, .inl rfl⟩, fun z hz => by cases hz⟩
  · have hx : ∀ j, ∃ p : Value × Value, ∀ (h : j < xs.length), CellsAt w b (off + j * 10) (subC xs[j] p.1 p.2) ∧ Go.Ts.RI w p.1 xs[j].acks ∧ RM w p.2 xs[j].queue := fun j => by
      by_cases h : j < xs.length
      · obtain ⟨cs, ⟨av, qv, rfl, ha, hq⟩, hc⟩ := hj j h
        exact ⟨(av, qv), fun _ => ⟨hc, ha, hq⟩⟩
      · exact ⟨(.slice none 0 0, .slice none 0 0), fun h2 => absurd h2 h⟩
    obtain ⟨f, hf⟩ := Classical.axiomOfChoice hx
    refine ⟨xs.mapIdx fun j x => (x, f j), ?_, ⟨some ⟨b, off, none⟩, c, by simp, by simpa using h2, h3, .inr ⟨b, off, rfl, hb, fun j hjl => ?_⟩⟩, fun z hz => ?_⟩
    · refine List.ext_getElem (by simp) fun j h1 h2 => by simp
    · have hjl' : j < xs.length := by simpa using hjl
      refine ⟨_, rfl, ?_⟩
      simp only [List.getElem_mapIdx, tC]
      exact (hf j hjl').1
    · obtain ⟨j, hjl, rfl⟩ := List.getElem_of_mem hz
      have hjl' : j < xs.length := by simpa using hjl
      simp only [List.getElem_mapIdx, ReadT]
      exact (hf j hjl').2
theorem tC_len (z : Tri) : (tC z).length = 10 := rfl
theorem src_tri {P : Program} {w : World} {v : Value} {zs : List Tri} (h : RT w v zs) (hr : ∀ z ∈ zs, ReadT w z) {tx e : TypeId} (hk : P.underlying tx = some (.slice e)) : Src P 10 tx v zs.length (zs.map tC).flatten w := by
  obtain ⟨A, c, rfl, h2, h3, h4⟩ := h
  have hfl : (zs.map tC).flatten.length = zs.length * 10 := by
    rw [flatten_len (sz := 10) _ (fun cs hcs => by obtain ⟨x, _, rfl⟩ := List.mem_map.1 hcs; rfl), List.length_map]
  have hall : ∀ u ∈ (zs.map tC).flatten, u.oneCell' = true := fun u hu => by
    obtain ⟨cs, hcs, hu⟩ := List.mem_flatten.1 hu
    obtain ⟨x, hx, rfl⟩ := List.mem_map.1 hcs
    exact tri_one (hr x hx) u hu
  rcases h4 with h4 | ⟨b, off, rfl, hb, hj⟩
  · subst h4
    cases A with
    | none => exact Src.ofNil _ hk c
    | some a => exact Src.ofSlice _ hk a 0 c [] (by simp) (fun j x hj => by simp at hj) (fun u hu => by cases hu)
  · refine Src.ofSlice _ hk ⟨b, off, none⟩ _ c _ hfl (fun j x hx => ?_) hall
    rw [Addr.add_lit]
    have hlt := (List.getElem?_eq_some_iff.1 hx).1
    rw [hfl] at hlt
    have hq : j / 10 < zs.length := by omega
    have hr := Nat.mod_lt j (show 0 < 10 by omega)
    obtain ⟨cs, hcs, hcell⟩ := hj (j / 10) hq
    have hg := flatten_get (sz := 10) (zs.map tC) (fun cs hcs => by obtain ⟨x, _, rfl⟩ := List.mem_map.1 hcs; rfl) (j / 10) (by simpa using hq) (j % 10) (by rw [List.getElem_map]; exact hr)
    rw [show j / 10 * 10 + j % 10 = j by omega, hx] at hg
    injection hg with hg
    have hc := hcell (j % 10) (by rw [hcs]; exact hr)
    rw [show off + j = off + j / 10 * 10 + j % 10 by omega, hc, hg]
    subst hcs
    simp [List.getElem_map]
set_option maxRecDepth 100000 in
set_option maxHeartbeats 1000000 in
theorem cloneS_any (v : Value) (zs : List Tri) (w : World) (h : RT w v zs) (hr : ∀ z ∈ zs, ReadT w z) (hl : zs.length ≤ 1000000) :
    Calls Tryz.prog 41 #[v] w fun e w' => ∃ u, e = .returned u ∧ w'.ownsRow w.heap.size 30 10 u zs.length (zs.map tC).flatten ∧ Below w.heap.size w w' := by
  have hbn := (Below.refl w.heap.size w).alloc (Nat.le_refl _) (Obj.cells #[] 30)
  have HS := Lib.hid (src_tri (P := Tryz.prog) (h.below (fun _ _ _ _ h _ => h) hbn) (fun z hz => (hr z hz).below hbn) Tryz.underlying23)
  have HLM := Lib.hid (show 0 + zs.length ≤ maxLen by unfold maxLen; omega)
  have HLB := Lib.hid (show (0 + zs.length) * 144 ≤ 140737488355328 by omega)
  have HO := Lib.hid (own_emptyS w 30 10)
  clear hbn hr
  obtain ⟨A, c, rfl, _, _, h3⟩ := h
  cases A with
  | none =>
    have hl0 : zs = [] := by
      rcases h3 with h3 | ⟨b, off, h4, _⟩
      · exact h3
      · cases h4
    subst hl0
    have e1 : (binOp .eql 23 (.slice none 0 c) (.slice none 0 0)).run Tryz.prog w = .ok (.bool true) w := eql_nilS w 23 30 none 0 c Tryz.underlying23
    rw [List.length_nil]
    clear h3
    go_enter Tryz.func41, Tryz.ntmps41
    go_wp2
    go_ret
    exact ⟨_, rfl, World.ownsRow_nil _ _ _ _, Below.refl _ _⟩
  | some a =>
    have e1 : (binOp .eql 23 (.slice (some a) zs.length c) (.slice none 0 0)).run Tryz.prog w = .ok (.bool false) w := eql_nilS w 23 30 (some a) zs.length c Tryz.underlying23
    clear h3
    go_enter Tryz.func41, Tryz.ntmps41
    go_wp2_with (at_builtin; refine wpList_own rfl (.tmp 5) (.tmp 6) 23 23 rfl w.heap.size 30 (.agg #[.int .i64 0, .string .empty, .string .empty, .string .empty, .int .i64 0, .int .i64 0, .int .i64 0, .slice none 0 0, .slice none 0 0, .string .empty]) 10 144 Tryz.underlying23 infoSub rfl rfl HO.out rfl HS.out ((Below.refl w.heap.size w).alloc (Nat.le_refl _) _) (Nat.le_refl _) HLM.out HLB.out (by simp) ?_)
    intro v5 w5 hown5 hbel5 _
    have HO5 := Lib.hid hown5
    have HB5 := Lib.hid hbel5
    obtain ⟨A5, c5, rfl, _⟩ := own_shape hown5
    clear hown5 hbel5
    go_wp2
    go_ret
    exact ⟨_, rfl, HO5.out, HB5.out⟩
theorem flat_lenT (zs : List Tri) : (zs.map tC).flatten.length = zs.length * 10 := by
  rw [flatten_len (sz := 10) _ (fun cs hcs => by obtain ⟨m, _, rfl⟩ := List.mem_map.1 hcs; rfl), List.length_map]
theorem set_tri {q : List Tri} {i k : Nat} (hi : i < q.length) (hk : k < 10) (v : Value) (m : Tri) (hm : (tC q[i]).set k v = tC m) : (q.map tC).flatten.set (i * 10 + k) v = ((q.set i m).map tC).flatten := by
  have h1 : q = q.take i ++ q[i] :: q.drop (i + 1) := by rw [List.getElem_cons_drop, List.take_append_drop]
  have h2 : q.set i m = q.take i ++ m :: q.drop (i + 1) := List.set_eq_take_append_cons_drop .. |>.trans (by rw [if_pos hi])
  have h3 : (q.map tC).flatten = ((q.take i).map tC).flatten ++ (tC q[i] ++ ((q.drop (i + 1)).map tC).flatten) := by
    conv => lhs; rw [h1]
    rw [List.map_append, List.flatten_append, List.map_cons, List.flatten_cons]
  have h4 : ((q.take i).map tC).flatten.length = i * 10 := by rw [flat_lenT, List.length_take, Nat.min_eq_left (by omega)]
  rw [h3, h2, List.set_append_right _ _ (by omega), h4, Nat.add_sub_cancel_left, List.set_append_left _ _ (by rw [tC_len]; exact hk), hm]
  rw [List.map_append, List.flatten_append, List.map_cons, List.flatten_cons]
abbrev OwnT (w : World) (B : Nat) (v : Value) (zs : List Tri) : Prop := w.ownsRow B 30 10 v zs.length (zs.map tC).flatten
theorem OwnT.cell {w : World} {B g c : Nat} {q : List Tri} (h : OwnT w B (.slice (some ⟨g, 0, none⟩) q.length c) q) {i k : Nat} (hi : i < q.length) (hk : k < 10) (v : Value) (m : Tri) (hm : (tC q[i]).set k v = tC m) :
    OwnT (w.setCell ⟨g, i * 10 + k, none⟩ v) B (.slice (some ⟨g, 0, none⟩) q.length c) (q.set i m) ∧ w.grownBy (w.setCell ⟨g, i * 10 + k, none⟩ v) (some g) := by
  obtain ⟨h1, h2⟩ := h.stored (i * 10 + k) v
  rw [set_tri hi hk v m hm] at h1
  refine ⟨?_, h2⟩
  show World.ownsRow _ _ _ _ _ (q.set i m).length _
  rw [List.length_set]
  exact h1
theorem OwnT.form {w : World} {B : Nat} {v : Value} {q : List Tri} (h : OwnT w B v q) (hn : 0 < q.length) : ∃ g c, v = .slice (some ⟨g, 0, none⟩) q.length c ∧ B ≤ g ∧ g < w.heap.size ∧ q.length ≤ c ∧ c ≤ maxLen := by
  rcases h.2 with ⟨_, h0⟩ | ⟨g, cap, cur, rfl, hb, hg, hl, hm, _⟩
  · omega
  · exact ⟨g, cap, rfl, hb, (Array.getElem?_eq_some_iff.1 hg).1, hl, hm⟩
theorem OwnT.at_ {w : World} {B g c : Nat} {q : List Tri} (h : OwnT w B (.slice (some ⟨g, 0, none⟩) q.length c) q) {i : Nat} (hi : i < q.length) : w.rangeAt g (i * 10) (tC q[i]) := fun j v hv => by
  have hj : j < 10 := by obtain ⟨hj, _⟩ := List.getElem?_eq_some_iff.1 hv; exact hj
  have hk : i * 10 + j < q.length * 10 := by omega
  rw [h.cellAt _ hk, flatten_get (sz := 10) (q.map tC) (fun cs hcs => by obtain ⟨m, _, rfl⟩ := List.mem_map.1 hcs; rfl) i (by simpa using hi) j (by rw [List.getElem_map]; exact hj)]
  obtain ⟨_, rfl⟩ := List.getElem?_eq_some_iff.1 hv
  congr 1
  simp only [List.getElem_map]
end Go.Proofs.YtodckdkbheapfaaGreat
set_option linter.unusedVariables false
namespace Go.Proofs.YtodckdkbheapfaaGreat
open Go.RowKit Go.Rst Go.Tp Go.Ts
def GivesF3 (w : World) (o : Option Sub) (e : Ending) (w' : World) : Prop := ∃ av qv, e = .returned (.tuple #[.agg (subC (o.getD noSub) av qv).toArray, .bool o.isSome]) ∧ OwnA w' w.heap.size av (o.getD noSub).acks ∧ OwnQ w' w.heap.size qv (o.getD noSub).queue ∧ Below w.heap.size w w'
set_option maxRecDepth 100000 in
set_option maxHeartbeats 8000000 in
theorem findP3_any (c n l : Int) (v : Value) (xs : List Sub) (id : Int) (w : World) (h : RS w v xs) (hz : ∀ x ∈ xs, Sized x) : Calls Tryz.prog 105 #[.agg (stC c n l v).toArray, .int .i64 id] w (GivesF3 w (findS xs id)) := by
  have HV := Lib.hid h
  have HZS := Lib.hid hz
  obtain ⟨A, ca, rfl, hac, ham⟩ := h.shape
  unfold maxLen at ham
  clear h hz
  generalize hr : findS xs id = r
  have HR := Lib.hid hr
  clear hr
  unfold stC
  obtain ⟨Z, hZ⟩ : ∃ Z : List Value, Z = [.int .i64 0, .string ⟨#[]⟩, .string ⟨#[]⟩, .string ⟨#[]⟩, .int .i64 0, .int .i64 0, .int .i64 0, .slice none 0 0, .slice none 0 0, .string ⟨#[]⟩] := ⟨_, rfl⟩
  obtain ⟨W0, hW0⟩ : ∃ W0, W0 = (w.alloc (.cells #[.int .i64 c, .int .i64 n, .int .i64 l, .slice A xs.length ca] 25)).alloc (.cells Z.toArray 30) := ⟨_, rfl⟩
  have hst : Wh W0 w.heap.size [.int .i64 c, .int .i64 n, .int .i64 l, .slice A xs.length ca] 25 := by rw [hW0]; exact (Wh.new w _ _).alloc _
  have hzr : Wh W0 (w.heap.size + 1) Z 30 := by
    have := Wh.new (w.alloc (.cells #[.int .i64 c, .int .i64 n, .int .i64 l, .slice A xs.length ca] 25)) Z 30
    rw [World.size_alloc] at this
    rw [hW0]; exact this
  have hbl : Below w.heap.size w W0 := by rw [hW0]; exact below_two w _ _ _ _
  have hsz : W0.heap.size = w.heap.size + 2 := by rw [hW0]; simp
  have HZL := Lib.hid (show Z.toArray.size = 10 by rw [hZ]; rfl)
  rw [hZ] at hW0
  have HST := Lib.hid hst
  have HZR := Lib.hid hzr
  have HBL := Lib.hid hbl
  have HSZ := Lib.hid hsz
  have c3 := hst.bx.cell (i := 3) (by simp)
  simp only [List.getElem_cons_succ, List.getElem_cons_zero] at c3
  have hl3 := hst.lt
  clear hst hzr hbl hsz hZ
  go_enter Tryz.func105, Tryz.ntmps105
  go_wp2_with fail
  rw [← hW0]
  clear hW0
  refine wp_region_held_drew (S := SB [W0]) (by kernel_rfl) (SB.start _) (fun hHeld => ?_)
  refine tkC 0 ?_
  refine tkA 1 (v := ?_) ?_ ?_
  rotate_left
  · intro W hSw; have hq := (SB.b0 hSw).cell (p := ⟨w.heap.size, 3, none⟩) hl3 |>.trans c3; go_simp; try (with_reducible rfl)
  try simp only [Act.put, zA, zB, zC]
  refine tkC 2 ?_
  refine rdA (rs := [3]) (arC (i := 3) fun K hK => ?_)
  go_simp
  refine (of_any id _).mono ?_
  rintro e w3 ⟨b, rfl, hcell, hblt, hbw3⟩
  try (go_wp2_with fail)
  have hHeld' := SB.step hHeld hbw3
  refine hK.out _ _ ?_ (fun _ => ?_)
  · exact hHeld'
  clear hK K hHeld
  try simp only [Act.put, zA, zB, zC]
  refine rdA (rs := [4]) (arC (i := 4) fun K hK => ?_)
  go_simp
  refine (idx_of _ xs b id w3 (HV.out.below stays_cs (HBL.out.trans ((SB.b0 hHeld').mono HBL.out.size))) hcell).mono ?_
  rintro e w4 ⟨r4, rfl, hix, hbw4⟩
  try (go_wp2_with fail)
  have hHeld := SB.step hHeld' hbw4
  refine hK.out _ _ ?_ (fun _ => ?_)
  · exact hHeld
  clear hK K hHeld'
  try simp only [Act.put, zA, zB, zC]
  refine tkC 5 ?_
  refine wpAnyH_done (by kernel_rfl) ?_ _
  have hb0 := SB.b0 hHeld
  have hbt := HBL.out.trans (hb0.mono HBL.out.size)
  have hst4 := HST.out.below hb0
  have hzr4 := HZR.out.below hb0
  have c34 := hst4.bx.cell (i := 3) (by simp)
  simp only [List.getElem_cons_succ, List.getElem_cons_zero] at c34
  have HST4 := Lib.hid hst4
  have HZR4 := Lib.hid hzr4
  have HBT := Lib.hid hbt
  clear hHeld hbw3 hbw4 hcell hblt c3 hl3 hst4 hzr4 hb0 hbt HST HZR
  rcases hix with ⟨k, hk, rfl, hp, hall⟩ | ⟨rfl, hall⟩
  · have HE := Lib.hid ((idx_find hk hp hall).symm.trans HR.out)
    obtain ⟨g, off, av, qv, rfl, hg, hrg0, hra, hrq⟩ := rs_at HV.out hk
    have hrg := range_below hrg0 hg HBT.out
    have HCO := Lib.hid (own2_any xs[k] av qv w4 (hra.below stays_ci HBT.out) (hrq.below stays_cm HBT.out) (HZS.out _ (List.getElem_mem hk)))
    obtain ⟨x, hx⟩ : ∃ x, x = xs[k] := ⟨_, rfl⟩
    rw [← hx] at hrg HE HCO
    have HRG := Lib.hid hrg
    have q1 : ¬ ((k : Int) < 0) := by omega
    have q2 : (k : Int) < (xs.length : Int) := by omega
    clear hx hrg hrg0 hra hrq hp hall
    go_wp2_with (first
      | (refine wpList_load_midG (by rfl) 30 (.tmp 18) rfl g (off + k * 10) rfl _ _ HRG.out Tryz.underlying30 rfl size35 ?_)
      | fail)
    refine HCO.out.mono ?_
    rintro e w5 ⟨a5, q5, rfl, hoa5, hoq5, hb5⟩
    have hra5 := rlt_ints hoa5
    have hrq5 := rlt_msgs hoq5
    have HS4 := Lib.hid (show w.heap.size + 2 ≤ w4.heap.size by have := (HZR4.out).lt; omega)
    have HOA := Lib.hid hoa5
    have HOQ := Lib.hid hoq5
    clear hoa5 hoq5
    have hall5 := sub_all x (rl_one hra5.rl) (rl_one hrq5.rl)
    obtain ⟨A5, k5, rfl, _⟩ := hra5.rl.shape
    obtain ⟨Q5, j5, rfl, _⟩ := hrq5.rl.shape
    have hzr5 := HZR4.out.below hb5
    have HB5 := Lib.hid (HBT.out.trans (hb5.mono HBT.out.size))
    have HZR5 := Lib.hid hzr5
    have HRA5 := Lib.hid hra5
    have HRQ5 := Lib.hid hrq5
    have HA5 := Lib.hid hall5
    clear hb5 hzr5 hra5 hrq5 hall5
    obtain ⟨xid, name, topic, want, lease, most, floor, acks, queue, note⟩ := x
    simp only [subC] at HA5 HE ⊢
    go_wp2_with (refine wpList_store_row rfl 30 (.tmp 4) (.tmp 20) rfl (w.heap.size + 1) #[.int .i64 xid, sv name, sv topic, sv want, .int .i64 lease, .int .i64 most, .int .i64 floor, .slice A5 acks.length k5, .slice Q5 queue.length j5, sv note] rfl rfl 30 Z.toArray HZR5.out size35 HZL.out HA5.out ?_)
    refine bodyPost_ret (results_row_tmp rfl _ _ (w.heap.size + 1) [.int .i64 xid, sv name, sv topic, sv want, .int .i64 lease, .int .i64 most, .int .i64 floor, .slice A5 acks.length k5, .slice Q5 queue.length j5, sv note] rfl (HZR5.out.set [.int .i64 xid, sv name, sv topic, sv want, .int .i64 lease, .int .i64 most, .int .i64 floor, .slice A5 acks.length k5, .slice Q5 queue.length j5, sv note]) Tryz.underlying30 rfl size35) rfl ?_
    rw [← HE.out]
    have hgr := grown_row w5 (w.heap.size + 1) #[.int .i64 xid, sv name, sv topic, sv want, .int .i64 lease, .int .i64 most, .int .i64 floor, .slice A5 acks.length k5, .slice Q5 queue.length j5, sv note]
    exact ⟨_, _, rfl, (HOA.out.kept hgr (.inr (fun h => by have := (HOA.out.lt _ h).1; have := HS4.out; omega))).mono (by have := HS4.out; omega), (HOQ.out.kept hgr (.inr (fun h => by have := (HOQ.out.lt _ h).1; have := HS4.out; omega))).mono (by have := HS4.out; omega), below_setRow HB5.out (by omega) _⟩
  · have HE := Lib.hid ((idx_nofind hall).symm.trans HR.out)
    clear hall
    go_wp2_with (refine wpList_store_row rfl 30 (.tmp 4) (.tmp 14) rfl (w.heap.size + 1) #[.int .i64 0, .string ⟨#[]⟩, .string ⟨#[]⟩, .string ⟨#[]⟩, .int .i64 0, .int .i64 0, .int .i64 0, .slice none 0 0, .slice none 0 0, .string ⟨#[]⟩] rfl rfl 30 Z.toArray HZR4.out size35 HZL.out (sub_all noSub (av := .slice none 0 0) (qv := .slice none 0 0) rfl rfl) ?_)
    refine bodyPost_ret (results_row_tmp rfl _ _ (w.heap.size + 1) [.int .i64 0, .string ⟨#[]⟩, .string ⟨#[]⟩, .string ⟨#[]⟩, .int .i64 0, .int .i64 0, .int .i64 0, .slice none 0 0, .slice none 0 0, .string ⟨#[]⟩] rfl (HZR4.out.set [.int .i64 0, .string ⟨#[]⟩, .string ⟨#[]⟩, .string ⟨#[]⟩, .int .i64 0, .int .i64 0, .int .i64 0, .slice none 0 0, .slice none 0 0, .string ⟨#[]⟩]) Tryz.underlying30 rfl size35) rfl ?_
    rw [← HE.out]
    exact ⟨.slice none 0 0, .slice none 0 0, rfl, World.ownsRow_nil _ _ _ _, World.ownsRow_nil _ _ _ _, below_setRow HBT.out (by omega) _⟩
end Go.Proofs.YtodckdkbheapfaaGreat
set_option linter.unusedVariables false
set_option linter.unusedSimpArgs false
namespace Go.Md
open Go Go.Tp Go.Ts
def backP (most : Int) (why : List UInt8) (m : Msg) : Msg := if m.tries = most then { m with til := 0, dead := true, why := why } else { m with til := 0 }
theorem backP_eq {most : Int} {why : List UInt8} {m : Msg} (h : m.tries ≤ most) : backP most why m = backM most why m := by
  unfold backP backM
  by_cases h1 : m.tries = most
  · rw [if_pos h1, if_pos (by omega)]
  · rw [if_neg h1, if_neg (by omega)]
end Go.Md
namespace Go.Proofs.YtodckdkbheapfaaGreat
open Go.RowKit Go.Rst Go.Tp Go.Ts Go.Md
theorem size45 : (Tryz.prog.info? 45).map (·.size) = some 8 := by kernel_rfl
theorem msg_all (m : Msg) : (msgC m).toArray.all (·.oneCell') = true := all_oneCell_toArray (msg_one m)
set_option maxRecDepth 100000 in
set_option maxHeartbeats 4000000 in
theorem back_any (m : Msg) (most : Int) (why : List UInt8) (w : World) : Calls Tryz.prog 81 #[.agg (msgC m).toArray, .int .i64 most, sv why] w fun e w' => e = .returned (.agg (msgC (backP most why m)).toArray) ∧ Below w.heap.size w w' := by
  obtain ⟨seq, body, attr, tries, til, dead, why0, prio⟩ := m
  simp only [msgC]
  by_cases h : tries = most
  · have hb : backP most why ⟨seq, body, attr, tries, til, dead, why0, prio⟩ = ⟨seq, body, attr, tries, 0, true, why, prio⟩ := by unfold backP; rw [if_pos h]
    rw [hb]
    have q1 : (tries == most) = true := by simp [h]
    clear h hb
    go_enter Tryz.func81, Tryz.ntmps81
    go_wp2_with fail
    refine bodyPost_ret (results_cell_row rfl _ _ (w.heap.size + 1) 45 #[.int .i64 seq, sv body, sv attr, .int .i64 tries, .int .i64 0, .bool true, sv why, .int .i64 prio] (0, 0) _ rfl (by have := heap_alloc_new (w.alloc (.cells #[.int .i64 seq, sv body, sv attr, .int .i64 tries, .int .i64 0, .bool true, sv why, .int .i64 prio] 45)) (.cells #[.int .i64 seq, sv body, sv attr, .int .i64 tries, .int .i64 0, .bool true, sv why, .int .i64 prio] 45); rw [World.size_alloc] at this; exact this) Tryz.underlying45 rfl size45) rfl ?_
    exact ⟨rfl, below_two w _ _ _ _⟩
  · have hb : backP most why ⟨seq, body, attr, tries, til, dead, why0, prio⟩ = ⟨seq, body, attr, tries, 0, dead, why0, prio⟩ := by unfold backP; rw [if_neg h]
    rw [hb]
    have q1 : (tries == most) = false := by simp [h]
    clear hb
    go_enter Tryz.func81, Tryz.ntmps81
    go_wp2_with fail
    refine bodyPost_ret (results_cell_row rfl _ _ (w.heap.size + 1) 45 #[.int .i64 seq, sv body, sv attr, .int .i64 tries, .int .i64 0, .bool dead, sv why0, .int .i64 prio] (0, 0) _ rfl (by have := heap_alloc_new (w.alloc (.cells #[.int .i64 seq, sv body, sv attr, .int .i64 tries, .int .i64 0, .bool dead, sv why0, .int .i64 prio] 45)) (.cells #[.int .i64 seq, sv body, sv attr, .int .i64 tries, .int .i64 0, .bool dead, sv why0, .int .i64 prio] 45); rw [World.size_alloc] at this; exact this) Tryz.underlying45 rfl size45) rfl ?_
    exact ⟨rfl, below_two w _ _ _ _⟩
end Go.Proofs.YtodckdkbheapfaaGreat
