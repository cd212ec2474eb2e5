/-
  The contract of slices.SortStableFunc of the places of messages that wait (layer model).; The contracts of the program's ready (layer model).; The contracts of the program's fetch (layer model).
-/
import Derived.Sort.OwnSortedInts
import Derived.Test.YtodckdkbheapfaaGreatKODD
import Derived.Test.YtodckdkbheapfaaGreatKODJ
set_option linter.unusedVariables false
set_option linter.unusedVariables false
set_option linter.unusedSimpArgs false
namespace Go.Proofs.YtodckdkbheapfaaGreat
open Go.RowKit Go.Rst Go.Tp Go.Ts Go.Md Go.Lib Go.Sort Go.Pso Go.Shelf
set_option maxRecDepth 100000 in
theorem ins_none (v f : Value) (w : World) : Calls Tryz.prog 154 #[v, .int .i64 0, .int .i64 0, f] w fun e w' => e = .returned (.tuple #[]) ∧ w' = w := by
  go_enter Tryz.func154, Tryz.ntmps154
  go_wp2
  refine wp_loop_rounds 1 ?_
  rw [rounds_succ]
  go_wp2
  go_end0
  exact ⟨rfl, rfl⟩
set_option maxRecDepth 100000 in
theorem stable_none (v f : Value) (w : World) : Calls Tryz.prog 135 #[v, .int .i64 0, f] w fun e w' => e = .returned (.tuple #[]) ∧ w' = w := by
  have HC := Lib.hid (ins_none v f w)
  go_enter Tryz.func135, Tryz.ntmps135
  go_wp2
  refine wp_loop_rounds 1 ?_
  rw [rounds_succ]
  go_wp2_with fail
  refine HC.out.mono ?_
  rintro e w1 ⟨rfl, rfl⟩
  go_wp2
  refine wp_loop_rounds 1 ?_
  rw [rounds_succ]
  go_wp2
  go_end0
  exact ⟨rfl, rfl⟩
theorem put_val {N : Nat} (w : World) (g : Nat) (d : Array (Fin (N + 1))) : putRow (encI N) w g 0 d = putRow (Value.int .i64) w g 0 (d.map fun x => (x.val : Int)) := by
  unfold putRow
  congr 1
  funext c
  unfold putCells
  congr 1
  funext i x
  simp only [Array.size_map]
  by_cases h : 0 ≤ i ∧ i < 0 + d.size
  · have hi : i - 0 < d.size := by omega
    rw [if_pos h, if_pos h, getElem!_pos d (i - 0) hi, getElem!_pos (d.map fun x => (x.val : Int)) (i - 0) (by rw [Array.size_map]; exact hi), Array.getElem_map]
    rfl
  · rw [if_neg h, if_neg h]
def finL {N : Nat} (l : List Nat) (h : ∀ i ∈ l, i < N + 1) : List (Fin (N + 1)) := l.attach.map fun i => ⟨i.1, h i.1 i.2⟩
theorem finL_val {N : Nat} (l : List Nat) (h : ∀ i ∈ l, i < N + 1) : (finL l h).map (·.val) = l := by
  unfold finL
  rw [List.map_map]
  show l.attach.map (fun i => i.1) = l
  simp
def natI (l : List Nat) : List Int := l.map fun (i : Nat) => (i : Int)
theorem natI_iv (l : List Nat) : (natI l).map iv = l.map fun (i : Nat) => Value.int .i64 (i : Int) := by
  unfold natI
  rw [List.map_map]
  rfl
theorem waitI_rising (q : List Msg) : (waitI q).Pairwise (· < ·) := List.Pairwise.sublist List.filter_sublist List.pairwise_lt_range
theorem grownBy_sortF {N : Nat} {w : World} {g m : Nat} {os : Array Obj} (d : Array (Fin (N + 1))) : w.grownBy (sortWorld (encI N) w g 0 m d os) (some g) := by
  unfold sortWorld
  rw [put_val]
  exact grownBy_sortedI _
set_option maxRecDepth 100000 in
set_option maxHeartbeats 4000000 in
theorem sort_any (q : List Msg) (B c bq g base : Nat) (v : Value) (wr : World) (hq : OwnQ wr B (.slice (some ⟨g, 0, none⟩) q.length c) q) (hg : g < base) (hbx : wr.cell? ⟨bq, 0, none⟩ = some (.slice (some ⟨g, 0, none⟩) q.length c)) (hbq : bq < base) (hbw : bq < wr.heap.size) (hq0 : 0 < q.length) (hq30 : q.length ≤ 30) (hsa : 20 < q.length → SymAll) (ho : OI base wr v (natI (waitI q))) :
    Calls Tryz.prog 107 #[v, .func (.func 108) #[] #[.pointer (some ⟨bq, 0, none⟩)]] wr fun e w' => e = .returned (.tuple #[]) ∧ OI base w' v (natI (ordI q)) ∧ wr.grownBy w' v.ownBlock := by
  have hwl : (waitI q).length ≤ q.length := by rw [waitI_len]; exact List.length_filter_le _ _
  have hnl : (natI (waitI q)).length = (waitI q).length := by unfold natI; rw [List.length_map]
  by_cases h0 : (waitI q).length = 0
  · have hw0 : waitI q = [] := List.eq_nil_of_length_eq_zero h0
    have ho0 : ordI q = [] := List.eq_nil_of_length_eq_zero (by rw [ordI_len, h0])
    obtain ⟨A, cap, rfl, _⟩ := own_shape ho
    rw [hw0] at ho
    rw [ho0]
    have HO := Lib.hid ho
    have HS := Lib.hid (stable_none (.slice A 0 cap) (.func (.func 108) #[] #[.pointer (some ⟨bq, 0, none⟩)]) wr)
    rw [hnl, h0]
    clear ho hq hbx
    go_enter Tryz.func107, Tryz.ntmps107
    go_wp2_with fail
    refine HS.out.mono ?_
    rintro e w1 ⟨rfl, rfl⟩
    go_wp2
    go_end0
    exact ⟨rfl, HO.out, World.grownBy.refl _ _⟩
  obtain ⟨N, hN⟩ : ∃ N, q.length = N + 1 := ⟨q.length - 1, by omega⟩
  have hin : ∀ i ∈ waitI q, i < N + 1 := fun i hi => by have := (mem_waitI.1 hi).1; omega
  obtain ⟨d, hd⟩ : ∃ d, d = (finL (waitI q) hin).toArray := ⟨_, rfl⟩
  have hdl : d.toList.map (·.val) = waitI q := by rw [hd]; exact finL_val _ hin
  have hds : d.size = (waitI q).length := by rw [← hdl]; simp
  have ho2 := ho
  unfold OI at ho2
  rcases ho2.2 with ⟨_, h1⟩ | ⟨g2, cap, cur, rfl, hb2, hcur, hle, hcm, hcs, htk⟩
  · rw [hnl] at h1; omega
  rw [hnl] at htk hle ho ⊢
  have hget : ∀ j (hj : j < d.size), (d[j].val) = (waitI q)[j]'(by omega) := fun j hj => by
    have h2 : (d.toList.map (·.val))[j]? = (waitI q)[j]? := by rw [hdl]
    rw [List.getElem?_map, List.getElem?_eq_getElem (by simpa using hj), List.getElem?_eq_getElem (by omega)] at h2
    simpa using h2
  have hH : Holds (encI N) wr g2 0 d := by
    intro j hj
    refine ⟨?_, by simp [World.frozen?, hcur]⟩
    have hj2 : j < (waitI q).length := by omega
    have h2 : (cur.toList.take (waitI q).length)[j]? = ((natI (waitI q)).map iv)[j]? := by rw [← htk, Nat.mul_one]
    rw [List.getElem?_take_of_lt hj2, natI_iv, List.getElem?_map, List.getElem?_eq_getElem hj2] at h2
    simp only [World.cell?, hcur, Nat.zero_add]
    simp only [Option.isSome_none, Bool.false_eq_true, if_false]
    rw [← Array.getElem?_toList, h2, getElem!_pos d j hj]
    unfold encI
    rw [hget j hj]
    rfl
  have hcmp : CmpReads Tryz.prog 108 #[.pointer (some ⟨bq, 0, none⟩)] (encI N) (cfQ N fun x => (qAt q x.val).prio) g2 0 d.size wr := fun m os dk hk x y => by
    have hgr := grownBy_sortF (w := wr) (g := g2) (m := m) (os := os) dk
    have hq2 : OwnQ (sortWorld (encI N) wr g2 0 m dk os) B (.slice (some ⟨g, 0, none⟩) q.length c) q := hq.kept hgr (.inr (by simp [Value.ownBlock]; omega))
    have hbx2 : (sortWorld (encI N) wr g2 0 m dk os).cell? ⟨bq, 0, none⟩ = some (.slice (some ⟨g, 0, none⟩) q.length c) := by
      rw [← hbx]
      unfold World.cell?
      rw [hgr.block bq hbw (by simp; omega)]
    have hx := x.2
    have hy := y.2
    refine (less_any q B g c bq _ hq2 hbx2 x.val y.val (by omega) (by omega) (by omega)).mono ?_
    rintro e w' ⟨rfl, hw⟩
    refine ⟨?_, hw⟩
    unfold cfQ
    show _ = Ending.returned (.int .i64 (Lib.compareInt (qAt q y.val).prio (qAt q x.val).prio))
    rw [qAt_lt (by omega), qAt_lt (by omega)]
  have heg : ∀ args w, (callFunc 108 args).run Tryz.prog w = .ok (.enter 108 args) w := Go.Proofs.enters_of Tryz.func108 (by kernel_rfl) rfl
  have hris : ∀ k j, k < j → j < d.size → d[k]!.val < d[j]!.val := fun k j hkj hj => by
    rw [getElem!_pos d k (by omega), getElem!_pos d j hj, hget k (by omega), hget j hj]
    exact List.pairwise_iff_getElem.1 (waitI_rising q) k j (by omega) (by omega) hkj
  have hst := stable_any N (fun x => (qAt q x.val).prio) 108 #[.pointer (some ⟨bq, 0, none⟩)] g2 cap d wr heg hcmp hH (by omega) hris (fun h20 d2 k hs2 hru => by
    have := hsa (by omega) N (fun x => (qAt q x.val).prio) 108 #[.pointer (some ⟨bq, 0, none⟩)] g2 cap heg d2 ((putRow (encI N) wr g2 0 d2).drewN k) 0 20 d2.size (by rw [hs2]; exact cmp_on hcmp d2 hs2 k) (holds_on hH hs2) (by omega) (by omega) (by omega) (Nat.le_refl _) (by rw [hs2]; exact hru)
    rw [hs2] at this
    refine this.mono ?_
    rintro e w' ⟨rfl, j, d3, rfl, h3, h4⟩
    exact ⟨rfl, _, d3, put_put (by rw [h3.1]), h3, h4⟩)
  rw [hds] at hst
  have HST := Lib.hid hst
  have HE : Hid (∀ n d2, PermIn 0 (waitI q).length d d2 → SortedIn (ltX fun x => (qAt q x.val).prio) 0 (waitI q).length d2 → OI base ((putRow (encI N) wr g2 0 d2).drewN n) (.slice (some ⟨g2, 0, none⟩) (waitI q).length cap) (natI (ordI q)) ∧ wr.grownBy ((putRow (encI N) wr g2 0 d2).drewN n) (some g2)) := Lib.hid (fun n d2 hp hs => by
    rw [← hds] at hp hs
    have hpw : d.toList.Pairwise (fun x y => x.val < y.val) := by
      have := waitI_rising q
      rw [← hdl, List.pairwise_map] at this
      exact this
    obtain ⟨h5, h6⟩ := sorted_list _ hpw hp hs
    have h7 : d2.toList.map (·.val) = ordI q := by
      refine ordI_eq ?_ ?_
      · rw [← hdl]
        exact h5.map _
      · rw [List.pairwise_map]
        exact h6
    have h8 : (d2.map fun x => (x.val : Int)) = (natI (ordI q)).toArray := by
      rw [← h7]
      apply Array.toList_inj.1
      simp [natI]
    have ew : (putRow (encI N) wr g2 0 d2).drewN n = grow (putRow (Value.int .i64) (Sort.ahead wr n) g2 0 (natI (ordI q)).toArray) #[] := by
      rw [grow_empty, put_val, h8]
      rfl
    rw [ew]
    refine ⟨?_, grownBy_sortedI _⟩
    have hl2 : (natI (ordI q)).length = (natI (waitI q)).length := by unfold natI; rw [List.length_map, List.length_map, ordI_len]
    have := ownsRow_sortedI (n := n) (os := #[]) (ss := natI (waitI q)) (ts := natI (ordI q)) hl2 hb2 hcur (by rw [hnl]; exact hle) hcm hcs
    unfold OI
    rw [hl2]
    rw [hnl] at this ⊢
    exact this)
  clear hst hcmp hH hris hq hbx ho ho2 hget hd hdl hcur htk
  go_enter Tryz.func107, Tryz.ntmps107
  go_wp2_with fail
  refine HST.out.mono ?_
  rintro e w1 ⟨rfl, n, d2, rfl, hp, hs⟩
  have h9 := HE.out n d2 hp hs
  have H9 := Lib.hid h9
  clear h9 hp hs
  go_wp2
  go_end0
  exact ⟨rfl, H9.out.1, H9.out.2⟩
end Go.Proofs.YtodckdkbheapfaaGreat
set_option linter.unusedVariables false
set_option linter.unusedSimpArgs false
namespace Go.Proofs.YtodckdkbheapfaaGreat
open Go.RowKit Go.Rst Go.Tp Go.Ts Go.Md
theorem wpList_min5 {P : Program} {w : World} {ops : Array Oper} {rest : List Oper} {o : Oper} {a : Act} {Q : Exit → Act → World → Prop} (hgd : o.guard = none) (x y : Operand) (ts : Array TypeId)
    (ho : o.op = .call { callee := .builtin .min, args := #[x, y], argTypes := ts }) {X Y n : Int} (hx : a.eval x = .int .i64 X) (hy : a.eval y = .int .i64 Y)
    (hn : (if Y < X then Y else X) = n) (h : wpList P ops Q rest (a.put o.dst (.int .i64 n)) w) : wpList P ops Q (o :: rest) a w := by
  refine wpList_plain hgd fun K hK => ?_
  unfold Oper.wp execOp
  simp only [ho, resolve, invoke, builtin, Sem.run_bind, Sem.run_pure, Result.andThen_ok, List.map_toArray, List.map_cons, List.map_nil, hx, hy, run_min_int2, hn]
  exact hK _ _ h
def waitT (q : List Msg) (k : Nat) : List Nat := (List.range k).filter fun i => waitB (qAt q i)
theorem waitT_all (q : List Msg) : waitT q q.length = waitI q := rfl
theorem waitT_next (q : List Msg) (k : Nat) : waitT q (k + 1) = waitT q k ++ (if waitB (qAt q k) then [k] else []) := by
  unfold waitT
  rw [List.range_succ, List.filter_append]
  congr 1
  rw [List.filter_cons]
  rfl
theorem waitT_len (q : List Msg) (k : Nat) : (waitT q k).length ≤ k := by
  have := List.length_filter_le (fun i => waitB (qAt q i)) (List.range k)
  rw [List.length_range] at this
  exact this
theorem natI_app (a b : List Nat) : natI (a ++ b) = natI a ++ natI b := by unfold natI; rw [List.map_append]
theorem natI_len (a : List Nat) : (natI a).length = a.length := by unfold natI; rw [List.length_map]
theorem oi_take {base : Nat} {w : World} {A : Option Addr} {n c k : Nat} {xs : List Int} (h : OI base w (.slice A n c) xs) (hk : k ≤ n) : OI base w (.slice A k c) (xs.take k) := by
  obtain ⟨h0, h⟩ := h
  rcases h with ⟨h1, h2⟩ | ⟨g, cap, cur, h1, hb, hcur, hle, hcm, hcs, htk⟩
  · simp only [Value.slice.injEq] at h1
    obtain ⟨rfl, rfl, rfl⟩ := h1
    obtain rfl : k = 0 := by omega
    exact ⟨by simp, .inl ⟨rfl, by simp⟩⟩
  · simp only [Value.slice.injEq] at h1
    obtain ⟨rfl, hn, rfl⟩ := h1
    have hl : (xs.take k).length = k := by rw [List.length_take]; omega
    refine ⟨by simp, .inr ⟨g, c, cur, by rw [hl], hb, hcur, by omega, hcm, hcs, ?_⟩⟩
    rw [Nat.mul_one] at htk ⊢
    rw [List.map_take, ← htk, List.take_take]
    congr 1
    rw [hl]
    omega
set_option maxRecDepth 100000 in
set_option maxHeartbeats 8000000 in
theorem ready_any (q : List Msg) (B c g : Nat) (n : Int) (w : World) (hq : OwnQ w B (.slice (some ⟨g, 0, none⟩) q.length c) q) (hq0 : 0 < q.length) (hq30 : q.length ≤ 30) (hn : 0 ≤ n) (hn2 : n ≤ 30) (hsa : 20 < q.length → SymAll) :
    Calls Tryz.prog 74 #[.slice (some ⟨g, 0, none⟩) q.length c, .int .i64 n] w fun e w' => ∃ v, e = .returned v ∧ OI w.heap.size w' v (natI ((ordI q).take n.toNat)) ∧ Below w.heap.size w w' := by
  have hgl : g < w.heap.size := by
    rcases hq.2 with ⟨h, _⟩ | ⟨g', cap, cur, h, hb, hcur, _⟩
    · cases h
    · simp only [Value.slice.injEq, Option.some.injEq, Addr.mk.injEq] at h
      obtain ⟨⟨rfl, _⟩, _⟩ := h
      exact (Array.getElem?_eq_some_iff.1 hcur).1
  obtain ⟨W0, hW0⟩ : ∃ W0, W0 = w.alloc (.cells #[.slice (some ⟨g, 0, none⟩) q.length c] 28) := ⟨_, rfl⟩
  have hb0 : Below w.heap.size w W0 := by rw [hW0]; exact (Below.refl w.heap.size w).alloc (Nat.le_refl _) _
  have hs0 : W0.heap.size = w.heap.size + 1 := by rw [hW0]; simp
  have hbx : W0.cell? ⟨w.heap.size, 0, none⟩ = some (.slice (some ⟨g, 0, none⟩) q.length c) := by rw [hW0]; simp
  have HB0 := Lib.hid hb0
  have HS0 := Lib.hid hs0
  have HBX := Lib.hid hbx
  have HQ0 := Lib.hid (own_below hq hb0)
  have HGL := Lib.hid hgl
  have hbx0 := hbx
  rw [hW0] at hbx0
  have hmf : ∀ (fn : Fn) (first cap : Array Value) (w : World), (Instr.makeFunc fn first cap).run Tryz.prog w = .ok (.func fn first cap) w := fun _ _ _ _ => rfl
  clear hb0 hs0 hbx hq hgl
  go_enter Tryz.func74, Tryz.ntmps74
  go_wp2_with fail
  rw [← hW0]
  clear hbx0
  clear hW0
  go_loopw [5, 10] (fun lv i wr => ∃ k : Nat, k ≤ q.length ∧ i = .int .i64 k ∧ OI W0.heap.size wr lv (natI (waitT q k)) ∧ Below W0.heap.size W0 wr) (fun _ i _ => q.length - (intOf i).toNat)
  case atStart => exact ⟨0, Nat.zero_le _, rfl, OI.nil_ _ _, Below.refl _ _⟩
  case round =>
    obtain ⟨k, hk, rfl, hos, hbel⟩ := hrel
    obtain ⟨ys, hys⟩ : ∃ ys, ys = natI (waitT q k) := ⟨_, rfl⟩
    rw [← hys] at hos
    have HYS := Lib.hid hys
    have hyl : ys.length ≤ 30 := by rw [hys, natI_len]; have := waitT_len q k; omega
    obtain ⟨A2, c2, rfl, hc2⟩ := own_shape hos
    have HOS := Lib.hid hos
    have HBW := Lib.hid hbel
    clear hys hos hbel
    by_cases hlt : k < q.length
    case neg =>
      have q2 : ¬ (k : Int) < (q.length : Int) := by omega
      have hke : k = q.length := by omega
      have hye : ys = natI (waitI q) := by rw [HYS.out, hke, waitT_all]
      have hos := HOS.out
      rw [hye] at hos
      rw [show ys.length = (natI (waitI q)).length by rw [hye]]
      have hbw := HBW.out
      have hbx : wr.cell? ⟨w.heap.size, 0, none⟩ = some (.slice (some ⟨g, 0, none⟩) q.length c) := by
        rw [← HBX.out]
        exact hbw.cell (p := ⟨w.heap.size, 0, none⟩) (by have := HS0.out; show w.heap.size < W0.heap.size; omega)
      have hso := sort_any q B c w.heap.size g W0.heap.size _ wr (own_below HQ0.out HBW.out) (by have := HS0.out; have := HGL.out; omega) hbx (by have := HS0.out; omega) (by have := HS0.out; have := hbw.size; omega) hq0 hq30 hsa hos
      have HSO := Lib.hid hso
      have hwl : (waitI q).length ≤ 30 := by rw [waitI_len]; have := List.length_filter_le waitB q; omega
      have hol : (natI (ordI q)).length = (natI (waitI q)).length := by rw [natI_len, natI_len, ordI_len]
      obtain ⟨L, hL⟩ : ∃ L, L = (natI (waitI q)).length := ⟨_, rfl⟩
      have hL30 : L ≤ 30 := by rw [hL, natI_len]; exact hwl
      obtain ⟨K, hK⟩ : ∃ K, K = min n.toNat L := ⟨_, rfl⟩
      have HMN := Lib.hid (show (if (L : Int) < n then (L : Int) else n) = (K : Int) by rw [hK]; split <;> omega)
      have hKL : K ≤ L := by omega
      have HTK := Lib.hid (show (natI (ordI q)).take K = natI ((ordI q).take n.toNat) by
        unfold natI
        rw [← List.map_take, hK, hL, natI_len, ← ordI_len, ← List.take_take, List.take_length])
      rw [← hL] at HSO hol ⊢
      have HOL := Lib.hid hol
      clear hye hke hos hso hbx hwl hol hL hK HYS
      go_wp2_with fail
      refine HSO.out.mono ?_
      rintro e w7 ⟨rfl, ho7, hg7⟩
      have hb7 : Below w.heap.size w w7 := below_grow (HB0.out.trans (hbw.mono HB0.out.size)) hg7 (fun k e => by
        rcases ho7.2 with ⟨h, _⟩ | ⟨g', cap, cur, h, hb, hcur, _⟩
        · rw [h] at e; cases e
        · rw [h] at e; simp only [Value.ownBlock, Option.some.injEq] at e; have := HS0.out; omega) (by have := HS0.out; have := hbw.size; omega)
      have hoc := oi_take ho7 hKL
      have HRI := Lib.hid (show OI w.heap.size w7 (.slice A2 K c2) ((natI (ordI q)).take K) from World.ownsRow.mono hoc (by have := HS0.out; omega))
      have HB7 := Lib.hid hb7
      rw [HTK.out] at HRI
      have hsh : (A2 = none ∧ L = 0 ∧ c2 = 0) ∨ (∃ b, A2 = some ⟨b, 0, none⟩) ∧ L ≤ c2 := by
        have hl7 := HOL.out
        rcases ho7.2 with ⟨h, h0⟩ | ⟨g', cap, cur, h, hb, hcur, hle, _⟩
        · simp only [Value.slice.injEq] at h
          exact .inl ⟨h.1, by omega, h.2.2⟩
        · simp only [Value.slice.injEq] at h
          exact .inr ⟨⟨g', h.1⟩, by omega⟩
      clear hoc hb7 ho7 hg7 hbw HSO HTK HOL
      have hkz : (0 : Int) ≤ (K : Int) := by omega
      have hkl : (K : Int) ≤ (L : Int) := by omega
      rcases hsh with ⟨rfl, h0, rfl⟩ | ⟨⟨b, rfl⟩, hc⟩
      · have hk0 : K = 0 := by omega
        subst hk0
        subst h0
        go_wp2_with (refine wpList_min5 rfl (.tmp 32) (.tmp 34) _ rfl rfl rfl HMN.out ?_)
        go_ret
        exact ⟨_, rfl, HRI.out, HB7.out⟩
      · go_wp2_with (refine wpList_min5 rfl (.tmp 32) (.tmp 34) _ rfl rfl rfl HMN.out ?_)
        go_ret
        exact ⟨_, rfl, HRI.out, HB7.out⟩
    have q2 : (k : Int) < (q.length : Int) := by omega
    have q3 : (0 : Int) ≤ (k : Int) := by omega
    have hrg := OwnQ.at_ (own_below HQ0.out HBW.out) hlt
    obtain ⟨m, hm⟩ : ∃ m, m = q[k] := ⟨_, rfl⟩
    rw [← hm] at hrg
    obtain ⟨M, hM⟩ : ∃ M, M = msgC m := ⟨_, rfl⟩
    rw [← hM] at hrg
    have HRG := Lib.hid hrg
    have HMS := Lib.hid (show (Tryz.prog.info? 45).map (·.size) = some M.length by rw [hM]; exact size45)
    have HMT := Lib.hid (show (Tryz.prog.info? 45).map (·.size) = some M.toArray.size by rw [hM]; exact size45)
    have HMO := Lib.hid (show (#[.int .i64 0, .string ⟨#[]⟩, .string ⟨#[]⟩, .int .i64 0, .int .i64 0, .bool false, .string ⟨#[]⟩, .int .i64 0] : Array Value).size = M.toArray.size by rw [hM]; rfl)
    have HMA := Lib.hid (show M.toArray.all (·.oneCell') = true by rw [hM]; exact msg_all m)
    have HMV := Lib.hid (show waitB (qAt q k) = (!m.dead && decide (m.til = 0)) by rw [qAt_lt hlt, ← hm]; rfl)
    have hbm := boxM_wh wr M
    have hbb := boxM_below wr M
    have kd := hbm.cv 5 (v := .bool m.dead) (by rw [hM]; rfl)
    have kt := hbm.cv 4 (v := .int .i64 m.til) (by rw [hM]; rfl)
    have HBB := Lib.hid hbb
    have w4 : wrap64 ((k : Int) + 1) = (k : Int) + 1 := by unfold wrap64; omega
    clear hm hM hrg hbm hbb
    obtain ⟨md, hmd⟩ : ∃ d, d = m.dead := ⟨_, rfl⟩
    obtain ⟨mt, hmt⟩ : ∃ d, d = m.til := ⟨_, rfl⟩
    rw [← hmd] at kd HMV
    rw [← hmt] at kt HMV
    clear hmd hmt
    cases md with
    | true =>
      have HNW := Lib.hid (show natI (waitT q (k + 1)) = ys by rw [waitT_next, HMV.out, HYS.out]; simp)
      clear kt
      go_wp2_with (first | (refine wpList_load_midG (by rfl) 45 (.tmp 13) rfl g (k * 8) rfl _ _ HRG.out Tryz.underlying45 rfl HMS.out ?_) | (refine wpList_store_row rfl 45 (.tmp 7) (.tmp 14) rfl wr.heap.size M.toArray rfl rfl 45 #[.int .i64 0, .string ⟨#[]⟩, .string ⟨#[]⟩, .int .i64 0, .int .i64 0, .bool false, .string ⟨#[]⟩, .int .i64 0] (boxM_old wr) HMT.out HMO.out HMA.out ?_; rw [boxM_def]) | fail)
      go_roundw
      case rel => exact ⟨k + 1, by omega, by go_num, by rw [HNW.out]; exact own_below HOS.out HBB.out, HBW.out.trans (HBB.out.mono HBW.out.size)⟩
      case measure => simp [intOf]; omega
    | false =>
      by_cases ht : mt = 0
      case neg =>
        have hti : decide (mt = 0) = false := decide_eq_false ht
        have htb : (mt == 0) = false := by simp [ht]
        have HNW := Lib.hid (show natI (waitT q (k + 1)) = ys by rw [waitT_next, HMV.out, HYS.out, hti]; simp)
        clear ht
        go_wp2_with (first | (refine wpList_load_midG (by rfl) 45 (.tmp 13) rfl g (k * 8) rfl _ _ HRG.out Tryz.underlying45 rfl HMS.out ?_) | (refine wpList_store_row rfl 45 (.tmp 7) (.tmp 14) rfl wr.heap.size M.toArray rfl rfl 45 #[.int .i64 0, .string ⟨#[]⟩, .string ⟨#[]⟩, .int .i64 0, .int .i64 0, .bool false, .string ⟨#[]⟩, .int .i64 0] (boxM_old wr) HMT.out HMO.out HMA.out ?_; rw [boxM_def]) | fail)
        go_roundw
        case rel => exact ⟨k + 1, by omega, by go_num, by rw [HNW.out]; exact own_below HOS.out HBB.out, HBW.out.trans (HBB.out.mono HBW.out.size)⟩
        case measure => simp [intOf]; omega
      subst ht
      have HNW := Lib.hid (show natI (waitT q (k + 1)) = ys ++ [(k : Int)] by rw [waitT_next, HMV.out, HYS.out, natI_app]; rfl)
      have HOY := Lib.hid (show (boxM wr M).ownsRow W0.heap.size 3 1 (.slice A2 ys.length c2) ys.length (ys.map iv) from own_below HOS.out HBB.out)
      have HB6 := Lib.hid (HBW.out.trans (HBB.out.mono HBW.out.size))
      have HSR := Lib.hid (fun (u : World) => src_cells (P := Tryz.prog) u rfl Tryz.underlying27 3 [.int .i64 (k : Int)] (fun u hu => by simp at hu; subst hu; rfl))
      clear HOS
      go_wp2_with (first | (refine wpList_load_midG (by rfl) 45 (.tmp 13) rfl g (k * 8) rfl _ _ HRG.out Tryz.underlying45 rfl HMS.out ?_) | (refine wpList_store_row rfl 45 (.tmp 7) (.tmp 14) rfl wr.heap.size M.toArray rfl rfl 45 #[.int .i64 0, .string ⟨#[]⟩, .string ⟨#[]⟩, .int .i64 0, .int .i64 0, .bool false, .string ⟨#[]⟩, .int .i64 0] (boxM_old wr) HMT.out HMO.out HMA.out ?_; rw [boxM_def]) | (at_builtin; refine wpList_own rfl (.tmp 23) (.tmp 25) 27 27 rfl W0.heap.size 3 _ 1 8 Tryz.underlying27 infoNum rfl rfl (HOY.out.alloc _) rfl (HSR.out (boxM wr M)) (HB6.out.alloc HB6.out.size _) (Nat.le_refl _) ?_ ?_ ?_ ?_) | fail)
      · unfold maxLen; omega
      · omega
      · have := HB6.out.size; (first | omega | (simp; omega))
      · intro v8 w8 hown8 hbel8 _
        have hos8 : OI W0.heap.size w8 v8 (ys ++ [(k : Int)]) := by unfold OI; rw [List.length_append, List.map_append]; exact hown8
        obtain ⟨A8, c8, rfl, _⟩ := own_shape hown8
        have HO8 := Lib.hid hos8
        have HB8 := Lib.hid hbel8
        clear hown8 hbel8 hos8
        go_wp2
        go_roundw
        case rel => exact ⟨k + 1, by omega, by go_num, by rw [HNW.out]; simpa using HO8.out, HB8.out⟩
        case measure => simp [intOf]; omega
set_option maxRecDepth 100000 in
theorem sort_none (f : Value) (w : World) : Calls Tryz.prog 107 #[.slice none 0 0, f] w fun e w' => e = .returned (.tuple #[]) ∧ w' = w := by
  have HS := Lib.hid (stable_none (.slice none 0 0) f w)
  go_enter Tryz.func107, Tryz.ntmps107
  go_wp2_with fail
  refine HS.out.mono ?_
  rintro e w1 ⟨rfl, rfl⟩
  go_wp2
  go_end0
  exact ⟨rfl, rfl⟩
set_option maxRecDepth 100000 in
set_option maxHeartbeats 4000000 in
theorem ready_none (A : Option Addr) (c : Nat) (n : Int) (w : World) (hn : 0 ≤ n) :
    Calls Tryz.prog 74 #[.slice A 0 c, .int .i64 n] w fun e w' => ∃ v, e = .returned v ∧ OI w.heap.size w' v [] ∧ Below w.heap.size w w' := by
  have hmf : ∀ (fn : Fn) (first cap : Array Value) (w : World), (Instr.makeFunc fn first cap).run Tryz.prog w = .ok (.func fn first cap) w := fun _ _ _ _ => rfl
  have hs := fun W => sort_none (.func (.func 108) #[] #[.pointer (some ⟨w.heap.size, 0, none⟩)]) W
  have HS := Lib.hid hs
  have HMN := Lib.hid (show (if (0 : Int) < n then (0 : Int) else n) = 0 by split <;> omega)
  clear hs
  go_enter Tryz.func74, Tryz.ntmps74
  go_wp2_with fail
  refine wp_loop_rounds 1 ?_
  rw [rounds_succ]
  go_wp2_with (first | (go_at_call 107; refine (HS.out _).mono ?_; rintro e w1 ⟨rfl, rfl⟩) | (refine wpList_min5 rfl (.tmp 32) (.tmp 34) _ rfl rfl rfl HMN.out ?_) | fail)
  go_ret
  exact ⟨_, rfl, OI.nil_ _ _, (Below.refl w.heap.size w).alloc (Nat.le_refl _) _⟩
end Go.Proofs.YtodckdkbheapfaaGreat
set_option linter.unusedVariables false
set_option linter.unusedSimpArgs false
namespace Go.Proofs.YtodckdkbheapfaaGreat
open Go.RowKit Go.Rst Go.Tp Go.Ts Go.Md
theorem oi_at {base : Nat} {w : World} {g n c : Nat} {xs : List Int} (h : OI base w (.slice (some ⟨g, 0, none⟩) n c) xs) (hn : n = xs.length) {i : Nat} (hi : i < xs.length) : w.cell? ⟨g, i, none⟩ = some (.int .i64 xs[i]) := by
  subst hn
  have h2 := World.ownsRow.cellAt h i (by omega)
  rw [h2, List.getElem?_map, List.getElem?_eq_getElem hi]
  rfl
theorem oi_form {base : Nat} {w : World} {v : Value} {xs : List Int} (h : OI base w v xs) (hn : 0 < xs.length) : ∃ g c, v = .slice (some ⟨g, 0, none⟩) xs.length c ∧ base ≤ g ∧ g < w.heap.size := by
  rcases h.2 with ⟨_, h0⟩ | ⟨g, cap, cur, rfl, hb, hg, _⟩
  · omega
  · exact ⟨g, cap, rfl, hb, (Array.getElem?_eq_some_iff.1 hg).1⟩
theorem wpList_store_midL {P : Program} {w : World} {ops : Array Oper} {rest : List Oper} {o : Oper} {a : Act} {Q : Exit → Act → World → Prop} (hgd : o.guard = none) (ty : TypeId) (x y : Operand) (ho : o.op = .store ty x y)
    (b off : Nat) (cells : Array Value) (hx : a.eval x = .pointer (some ⟨b, off, none⟩)) (hy : a.eval y = .agg cells) (ht : w.there b off cells.size) (hi : (P.info? ty).map (·.size) = some cells.size) (h1 : cells.all (·.oneCell') = true)
    (h : wpList P ops Q rest (a.put o.dst undef) (w.setCells b off cells.toList)) : wpList P ops Q (o :: rest) a w :=
  wpList_plain hgd fun K hK => wp_store_mid ty x y ho b off cells hx hy ht hi h1 (hK _ _ h)
def FetI (w : World) (AC E : List Value) (bb K K3 : Nat) (qv lv av : Value) (x : Sub) (t : Int) (P : List Nat) (i : Nat) (ov : Value) (wr : World) : Prop :=
  MF w wr AC ∧ Wh wr bb E 30 ∧ OwnA wr K av x.acks ∧ OwnQ wr K qv (leaseQ t (P.take i) x.queue) ∧ OI (bb + 1) wr lv (natI P) ∧ OwnQ wr K3 ov ((P.take i).map fun j => lease t (qAt x.queue j)) ∧ K3 ≤ wr.heap.size
structure WpStop (P : Program) (ops : Array Oper) (Q : Exit → Act → World → Prop) (l : List Oper) (a : Act) (w : World) : Prop where
  go : wpList P ops Q l a w
theorem wpList_stop {P : Program} {ops : Array Oper} {Q : Exit → Act → World → Prop} {o : Oper} {rest : List Oper} {a : Act} {w : World} (d : Nat) (hd : o.dst = some d) (h : WpStop P ops Q (o :: rest) a w) : wpList P ops Q (o :: rest) a w := h.go
theorem wpStop_go {P : Program} {ops : Array Oper} {Q : Exit → Act → World → Prop} {l : List Oper} {a : Act} {w : World} (h : wpList P ops Q l a w) : WpStop P ops Q l a w := ⟨h⟩
theorem tries_pos {x : Sub} {clock next : Int} (h : Gd x clock next) (h0 : 0 ≤ clock) (h1 : clock ≤ 4503599627370496) {m : Msg} (hm : m ∈ x.queue) : 0 ≤ m.tries ∧ m.tries ≤ 9 := by
  have hmb := (h.pd.qr m hm).2.2.2
  have e1 := h.pd.hd.m1
  have e2 := h.pd.hd.m2
  rw [msg_iff h0 h1 h.pd.hd.e1 h.pd.hd.e2] at hmb
  rcases hmb.2 with ⟨_, _, _, h5⟩ | ⟨_, _, ⟨_, h4, h5⟩ | ⟨h4, h5, _⟩⟩ <;> omega
theorem OwnQ_nil (w : World) (K : Nat) : OwnQ w K (.slice none 0 0) [] := World.ownsRow_nil _ _ _ _
theorem take_next {l : List Nat} {i : Nat} (h : i < l.length) (t : Int) (q : List Msg) (hn : l.Nodup) (hl : ∀ j ∈ l, j < q.length) :
    leaseQ t (l.take (i + 1)) q = (leaseQ t (l.take i) q).set l[i] (lease t (qAt q l[i])) ∧ (l.take (i + 1)).map (fun j => lease t (qAt q j)) = (l.take i).map (fun j => lease t (qAt q j)) ++ [lease t (qAt q l[i])] ∧ qAt (leaseQ t (l.take i) q) l[i] = qAt q l[i] := by
  have e : l.take (i + 1) = l.take i ++ [l[i]] := List.take_succ_eq_append_getElem h
  have hni : l[i] ∉ l.take i := fun hm => by
    obtain ⟨j, hj, he⟩ := List.getElem_of_mem hm
    rw [List.getElem_take] at he
    have := List.pairwise_iff_getElem.1 hn j i (by rw [List.length_take] at hj; omega) h (by rw [List.length_take] at hj; omega)
    exact this he
  have h3 : qAt (leaseQ t (l.take i) q) l[i] = qAt q l[i] := by
    rw [leaseQ_at t _ q _ (List.Nodup.sublist (List.take_sublist _ _) hn) (fun j hj => hl j (List.mem_of_mem_take hj)), if_neg hni]
  refine ⟨?_, ?_, h3⟩
  · rw [e, leaseQ_snoc, h3]
  · rw [e, List.map_append]
    rfl
set_option maxRecDepth 100000 in
set_option maxHeartbeats 8000000 in
theorem fetch_p (s : St) (v : Value) (o : Md.Op) (dv : Value) (w : World) (h : RS w v s.subs) (hr : Rt s) (ho : OpOk o) (hd : dv.oneCell' = true) (hsa : ∀ x, findS s.subs o.sub = some x → 20 < x.queue.length → SymAll) :
    Calls Tryz.prog 47 #[.agg (askC s v o dv).toArray] w (GivesRes w (withX s o fun x => fetchR s x o)) := by
  obtain ⟨A, ca, rfl, hca, hcm⟩ := h.shape
  obtain ⟨AC, hAC⟩ : ∃ AC, AC = askC s (.slice A s.subs.length ca) o dv := ⟨_, rfl⟩
  have HACE := Lib.hid hAC
  have HAI := Lib.hid (show (Tryz.prog.info? 73).map (·.size) = some AC.length by rw [hAC]; exact sizeA)
  have HPT := Lib.hid (fun W (h : Wh W w.heap.size AC 73) => ask_part (s := s) (v := .slice A s.subs.length ca) (o := o) (dv := dv) (by rw [← hAC]; exact h))
  have HR := Lib.hid h
  have HRT := Lib.hid hr
  have HOK := Lib.hid ho
  have HD := Lib.hid hd
  have HZ := Lib.hid hr.sized
  have HL := Lib.hid hr.len
  have HMF := Lib.hid (MF.start w AC)
  have HCV0 := Lib.hid (fun (W : World) (h : Wh W w.heap.size AC 73) => h.cv 0 (v := .int .i64 s.clock) (by rw [hAC]; rfl))
  have HCV1 := Lib.hid (fun (W : World) (h : Wh W w.heap.size AC 73) => h.cv 1 (v := .int .i64 s.next) (by rw [hAC]; rfl))
  have HCV2 := Lib.hid (fun (W : World) (h : Wh W w.heap.size AC 73) => h.cv 2 (v := .int .i64 s.last) (by rw [hAC]; rfl))
  have HCV3 := Lib.hid (fun (W : World) (h : Wh W w.heap.size AC 73) => h.cv 3 (v := .slice A s.subs.length ca) (by rw [hAC]; rfl))
  have HCV4 := Lib.hid (fun (W : World) (h : Wh W w.heap.size AC 73) => h.cv 4 (v := .int .i64 o.kind) (by rw [hAC]; rfl))
  have HCV5 := Lib.hid (fun (W : World) (h : Wh W w.heap.size AC 73) => h.cv 5 (v := .int .i64 o.sub) (by rw [hAC]; rfl))
  have HCV6 := Lib.hid (fun (W : World) (h : Wh W w.heap.size AC 73) => h.cv 6 (v := .int .i64 o.n) (by rw [hAC]; rfl))
  have HCV7 := Lib.hid (fun (W : World) (h : Wh W w.heap.size AC 73) => h.cv 7 (v := .int .i64 o.seq) (by rw [hAC]; rfl))
  have HCV8 := Lib.hid (fun (W : World) (h : Wh W w.heap.size AC 73) => h.cv 8 (v := sv o.name) (by rw [hAC]; rfl))
  have HCV9 := Lib.hid (fun (W : World) (h : Wh W w.heap.size AC 73) => h.cv 9 (v := sv o.topic) (by rw [hAC]; rfl))
  have HCV10 := Lib.hid (fun (W : World) (h : Wh W w.heap.size AC 73) => h.cv 10 (v := sv o.want) (by rw [hAC]; rfl))
  have HCV11 := Lib.hid (fun (W : World) (h : Wh W w.heap.size AC 73) => h.cv 11 (v := sv o.body) (by rw [hAC]; rfl))
  have HCV12 := Lib.hid (fun (W : World) (h : Wh W w.heap.size AC 73) => h.cv 12 (v := sv o.attr) (by rw [hAC]; rfl))
  have HCV13 := Lib.hid (fun (W : World) (h : Wh W w.heap.size AC 73) => h.cv 13 (v := dv) (by rw [hAC]; rfl))
  obtain ⟨W0, hW0⟩ : ∃ W0, W0 = A3 w AC := ⟨_, rfl⟩
  rw [← hW0] at HMF
  rw [← hAC]
  unfold A3 at hW0
  unfold maxLen at hcm
  clear h hr ho hd hAC
  have hla := HMF.out.a.range
  rw [hW0] at hla
  have HLA := Lib.hid hla
  clear hla
  have hF := sub_p s (.slice A s.subs.length ca) o dv
  have hfi := fun x (h : findS s.subs o.sub = some x) => find_some' h
  have HWX := Lib.hid (show withX s o (fun x => fetchR s x o) = (match findS s.subs o.sub with | none => Res.no 30 | some x => (fun x => fetchR s x o) x) from rfl)
  rw [HWX.out]
  generalize findS s.subs o.sub = fo at hF hfi hsa ⊢
  have HF := Lib.hid hF
  have HFI := Lib.hid hfi
  have HSA := Lib.hid hsa
  clear hF hfi HWX hsa
  go_enter Tryz.func47, Tryz.ntmps47
  go_wp2_with (first | (refine wpList_load_midG (by rfl) 73 (.tmp 1) rfl w.heap.size 0 rfl _ _ HLA.out Tryz.underlying73 rfl HAI.out ?_) | fail)
  rw [← hW0]
  clear hW0 HLA
  have hc := HF.out _ (HR.out.below stays_cs HMF.out.b) HZ.out HD.out
  rw [← HACE.out] at hc
  refine hc.mono ?_
  clear hc
  rintro e w5 hg
  cases fo with
  | none =>
    obtain ⟨rfl, hb5⟩ := hg
    exact ⟨rfl, rfl, HMF.out.b.trans (hb5.mono HMF.out.b.size)⟩
  | some x =>
    obtain ⟨av, qv, rfl, hoa, hoq, hb5⟩ := hg
    have HX := Lib.hid (HFI.out x rfl)
    have HXG := Lib.hid (HRT.out.gd HX.out.1)
    obtain ⟨E, hE⟩ : ∃ E, E = subC x av qv := ⟨_, rfl⟩
    have HE := Lib.hid (show Cub E by rw [hE]; exact Cub.mk_ x (rl_one (OwnA.ri hoa)) (rl_one (OwnQ.rm hoq)))
    have HEE := Lib.hid hE
    rw [← hE]
    have HM1 := Lib.hid (HMF.out.below (hb5.trans ((box_below w5 E).mono hb5.size)))
    have HOA := Lib.hid (own_below hoa (box_below w5 E))
    have HOQ := Lib.hid (own_below hoq (box_below w5 E))
    have HBX := Lib.hid (box_wh w5 E)
    have HN5 := Lib.hid (show w.heap.size + 3 ≤ w5.heap.size from Nat.le_trans HMF.out.n hb5.size)
    have HNW := Lib.hid HMF.out.n
    clear hE hoa hoq hb5
    have k6_ := HCV6.out _ HM1.out.a
    go_wp2_with (first | (refine wpList_store_row rfl 30 (.tmp 4) (.tmp 10) rfl w5.heap.size E.toArray rfl rfl 30 #[.int .i64 0, .string ⟨#[]⟩, .string ⟨#[]⟩, .string ⟨#[]⟩, .int .i64 0, .int .i64 0, .int .i64 0, .slice none 0 0, .slice none 0 0, .string ⟨#[]⟩] (box_old w5) HE.out.info HE.out.old HE.out.all ?_; rw [box_def]) | fail)
    refine (within_any o.n 1 30 _).mono ?_
    rintro e v1 ⟨rfl, rfl⟩
    cases h1 : (decide (1 ≤ o.n) && decide (o.n ≤ 30)) with
    | false =>
      clear k6_
      go_wp2_with fail
      have HRES := Lib.hid (show fetchR s x o = Res.no 1 by unfold fetchR need; simp [h1])
      refine (must_no 1 _).mono ?_
      rintro e w9 ⟨rfl, rfl⟩
      refine ⟨rfl, ?_⟩
      show GivesRes w (fetchR s x o) _ _
      rw [HRES.out]
      exact ⟨rfl, HM1.out.b⟩
    | true =>
      go_wp2_with fail
      refine (must_yes 1 _).mono ?_
      rintro e w9 ⟨rfl, rfl⟩
      have hon : 1 ≤ o.n ∧ o.n ≤ 30 := by simpa using h1
      obtain ⟨V, hV⟩ : ∃ V, V = boxW w5 E := ⟨_, rfl⟩
      rw [← hV] at HM1 HOA HOQ HBX k6_ ⊢
      have HVS := Lib.hid (show V.heap.size = w5.heap.size + 1 by rw [hV]; exact box_size w5 E)
      obtain ⟨Aq, cq, hqs, hqc⟩ := own_shape HOQ.out
      have HQS := Lib.hid hqs
      have k8 := HBX.out.cv 8 (v := qv) (by rw [HEE.out]; rfl)
      rw [hqs] at k8
      obtain ⟨t, ht⟩ : ∃ t, t = s.clock + x.lease := ⟨_, rfl⟩
      have hc0 := HRT.out.c0
      have hc1 := HRT.out.c1
      have he1 := HXG.out.pd.hd.e1
      have he2 := HXG.out.pd.hd.e2
      have HT0 := Lib.hid (show t ≠ 0 by omega)
      have HTW := Lib.hid (show wrap64 (s.clock + x.lease) = t by rw [ht]; unfold wrap64; omega)
      have HTE := Lib.hid ht
      obtain ⟨P, hP⟩ : ∃ P, P = (ordI x.queue).take o.n.toNat := ⟨_, rfl⟩
      have hql := HXG.out.pd.ql
      have HRD := Lib.hid (show Calls Tryz.prog 74 #[.slice Aq x.queue.length cq, .int .i64 o.n] V fun e w' => ∃ v, e = .returned v ∧ OI V.heap.size w' v (natI P) ∧ Below V.heap.size V w' from by
        by_cases hq0 : 0 < x.queue.length
        · obtain ⟨g, c, hg, _⟩ := OwnQ.form HOQ.out hq0
          rw [hqs] at hg
          simp only [Value.slice.injEq, true_and] at hg
          obtain ⟨rfl, rfl⟩ := hg
          rw [hP]
          exact ready_any x.queue _ cq g o.n V (by have := HOQ.out; rw [hqs] at this; exact this) hq0 hql (by omega) (by omega) (HSA.out x rfl)
        · have hl : x.queue = [] := List.eq_nil_of_length_eq_zero (by omega)
          have hp0 : P = [] := by rw [hP]; have : ordI x.queue = [] := List.eq_nil_of_length_eq_zero (by rw [ordI_len, waitI_len, hl]; rfl); rw [this, List.take_nil]
          rw [hp0, hl]
          exact ready_none Aq cq o.n V (by omega))
      have HPN := Lib.hid (show P.Nodup by rw [hP]; exact List.Nodup.sublist (List.take_sublist _ _) (ordI_nodup _))
      have HPL := Lib.hid (show ∀ j ∈ P, j < x.queue.length from fun j hj => by rw [hP] at hj; exact (mem_waitI.1 ((ordI_perm _).mem_iff.1 (List.mem_of_mem_take hj))).1)
      have hpl30 : P.length ≤ 30 := by rw [hP, List.length_take, ordI_len, waitI_len]; have := List.length_filter_le waitB x.queue; omega
      have HFE := Lib.hid (show fetchL t o.n.toNat x.queue = (leaseQ t P x.queue, P.map fun i => lease t (qAt x.queue i)) by rw [hP]; exact fetch_ord HT0.out _ _)
      have HRES := Lib.hid (show fetchR s x o = Res.yes (putSt s { x with queue := leaseQ t P x.queue }) ⟨0, (P.length : Nat), P.map fun i => lease t (qAt x.queue i)⟩ by
        unfold fetchR need
        rw [if_pos h1, ← HTE.out, HFE.out]
        simp)
      clear hV hqs hP ht h1 hc0 hc1 he1 he2
      go_wp2_with fail
      refine HRD.out.mono ?_
      rintro e w9 ⟨lv, rfl, hoi, hb9⟩
      obtain ⟨Al, cl, hls, _⟩ := own_shape hoi
      rw [natI_len] at hls
      have HLS := Lib.hid hls
      have HQ5 := Lib.hid (show ∀ k, qv.ownBlock = some k → w5.heap.size ≠ k from fun k h e => own_ne_wh HOQ.out HBX.out (by decide) (by rw [h, e]))
      have HQ9 := Lib.hid (show ∀ k, qv.ownBlock = some k → k < w9.heap.size from fun k h => Nat.lt_of_lt_of_le (HOQ.out.lt k h).2 hb9.size)
      have HK3 := Lib.hid (show w5.heap.size + 1 ≤ w9.heap.size by have := HVS.out; have := hb9.size; omega)
      have HST := Lib.hid (show FetI w AC E w5.heap.size W0.heap.size w9.heap.size qv lv av x t P 0 (.slice none 0 0) w9 from ⟨HM1.out.below hb9, HBX.out.below hb9, own_below HOA.out hb9, by rw [List.take_zero]; exact own_below HOQ.out hb9, World.ownsRow.mono hoi (by have := HVS.out; omega), OwnQ_nil _ _, Nat.le_refl _⟩)
      rw [hls]
      clear hls hoi hb9 k6_ k8 HRD
      go_wp2_with fail
      go_loopw [5, 23] (fun ov iv wr => ∃ i : Nat, i ≤ P.length ∧ iv = .int .i64 i ∧ FetI w AC E w5.heap.size W0.heap.size w9.heap.size qv lv av x t P i ov wr) (fun _ iv _ => P.length - (intOf iv).toNat)
      case atStart => exact ⟨0, Nat.zero_le _, rfl, HST.out⟩
      case round =>
        clear HST
        obtain ⟨i, hi, rfl, hf⟩ := hrel
        obtain ⟨hmf, hbx, hoa, hoq, hoi, hol, hks⟩ := hf
        have HM := Lib.hid hmf
        have HB := Lib.hid hbx
        have HA := Lib.hid hoa
        have HQ := Lib.hid hoq
        have HI := Lib.hid hoi
        have HO := Lib.hid hol
        have HKS := Lib.hid hks
        clear hmf hbx hoa hoq hoi hol hks
        by_cases hip : i < P.length
        case neg =>
          have q2 : ¬ ((i : Int) < (P.length : Int)) := by omega
          have hpe : P.take i = P := List.take_of_length_le (by omega)
          have ho := HO.out
          have hq := HQ.out
          rw [hpe] at ho hq
          obtain ⟨Ao, co, hos, _⟩ := own_shape ho
          rw [List.length_map] at hos
          rw [hos] at ho
          subst hos
          have hqls := leaseQ_len t P x.queue
          have HP2 := Lib.hid (HPT.out _ HM.out.a)
          have HBR := Lib.hid HB.out.range
          have HEE2 := Lib.hid (show E = subC { x with queue := leaseQ t P x.queue } av qv by rw [HEE.out]; rfl)
          have HLV := Lib.hid (rlt_msgs ho)
          have HQ2 := Lib.hid hq
          clear hpe HO HQ ho hq
          go_wp2_with (first | (refine wpList_load_midG (by rfl) 25 (.tmp 53) rfl w.heap.size 0 rfl _ _ HP2.out Tryz.underlying25 rfl size24 ?_) | (refine wpList_load_midG (by rfl) 30 (.tmp 4) rfl w5.heap.size 0 rfl _ _ HBR.out Tryz.underlying30 rfl HE.out.infoL ?_) | fail)
          have hc := putP_any s.clock s.next s.last (.slice A s.subs.length ca) s.subs { x with queue := leaseQ t P x.queue } av qv _ (HR.out.below stays_cs HM.out.b) HZ.out (by have := HL.out; omega) (OwnA.ri HA.out) (OwnQ.rm HQ2.out) (Sized.few (by have := HXG.out.al; show x.acks.length ≤ 1000000; omega) (by show (leaseQ t P x.queue).length ≤ 1000000; rw [hqls]; omega))
          rw [← HEE2.out] at hc
          refine hc.mono ?_
          clear hc
          rintro e w8 ⟨u, rfl, hon, hb8⟩
          have hmf := HM.out.below hb8
          have hn := HM.out.n
          have hlv := HLV.out.below fixed_cm hb8
          clear HP2 HBR HLV
          have HS9 := Lib.hid hmf.s
          have HR9 := Lib.hid (hmf.r.setOther (k := w.heap.size + 1) (by omega) (stC (s.clock) (s.next) (s.last) u).toArray)
          have HSA9 := Lib.hid (st_all (s.clock) (s.next) (s.last) (rl_one hon.rs))
          go_wp2_with (first | (refine wpList_store_row rfl 25 (.tmp 2) (.tmp 56) rfl (w.heap.size + 1) (stC (s.clock) (s.next) (s.last) u).toArray rfl rfl 25 zT.toArray HS9.out size24 rfl HSA9.out ?_) | (refine wpList_store_row rfl 37 (.tmp 3) (.tmp 60) rfl (w.heap.size + 2) (rpC ⟨0, (P.length : Nat), P.map fun i => lease t (qAt x.queue i)⟩ (.slice Ao P.length co)).toArray rfl rfl 37 zR.toArray HR9.out sizeR rfl (rp_all ⟨0, (P.length : Nat), P.map fun i => lease t (qAt x.queue i)⟩ rfl) ?_) | fail)
          refine bodyPost_ret (m_res hmf rfl rfl rfl) rfl ?_
          show GivesRes w (fetchR s x o) _ _
          rw [HRES.out]
          exact m_gives (t := ⟨s.clock, s.next, s.last, _⟩) (rp := ⟨0, (P.length : Nat), P.map fun i => lease t (qAt x.queue i)⟩) hmf hon (by omega) hlv
        have q2 : (i : Int) < (P.length : Int) := by omega
        have q3 : (0 : Int) ≤ (i : Int) := by omega
        obtain ⟨jn, hjn⟩ : ∃ j, j = P[i] := ⟨_, rfl⟩
        have hjl : jn < x.queue.length := by rw [hjn]; exact HPL.out _ (List.getElem_mem hip)
        obtain ⟨e1, e2, e3⟩ := take_next hip t x.queue HPN.out HPL.out
        rw [← hjn] at e1 e2 e3
        have HE1 := Lib.hid e1
        have HE2 := Lib.hid e2
        have hqln := leaseQ_len t (P.take i) x.queue
        obtain ⟨gl, cl', hlv, hglb, hgll⟩ := oi_form HI.out (by rw [natI_len]; omega)
        rw [natI_len, HLS.out] at hlv
        simp only [Value.slice.injEq, true_and] at hlv
        obtain ⟨rfl, rfl⟩ := hlv
        have kl : wr.cell? ⟨gl, i, none⟩ = some (.int .i64 (jn : Int)) := by
          have h1 := HI.out
          rw [HLS.out] at h1
          have h2 := oi_at h1 (natI_len P).symm (i := i) (by rw [natI_len]; exact hip)
          rw [h2, hjn]
          simp [natI]
        obtain ⟨g2, c2, hq2, hg2b, hg2l, _⟩ := OwnQ.form HQ.out (by omega)
        rw [hqln, HQS.out] at hq2
        simp only [Value.slice.injEq, true_and] at hq2
        obtain ⟨rfl, rfl⟩ := hq2
        have HG9 := Lib.hid (HQ9.out g2 (by rw [HQS.out]; rfl))
        have HG5 := Lib.hid (HQ5.out g2 (by rw [HQS.out]; rfl))
        have hoq : OwnQ wr W0.heap.size (.slice (some ⟨g2, 0, none⟩) (leaseQ t (P.take i) x.queue).length cq) (leaseQ t (P.take i) x.queue) := by
          have h1 := HQ.out
          rw [HQS.out] at h1
          rw [hqln]
          exact h1
        have HOQ2 := Lib.hid hoq
        have kW8 := HB.out.cv 8 (v := .slice (some ⟨g2, 0, none⟩) x.queue.length cq) (by rw [HEE.out, ← HQS.out]; rfl)
        have hjq : jn < (leaseQ t (P.take i) x.queue).length := by omega
        have hrg := OwnQ.at_ hoq hjq
        rw [← qAt_lt hjq, e3] at hrg
        obtain ⟨m, hm⟩ : ∃ m, m = qAt x.queue jn := ⟨_, rfl⟩
        rw [← hm] at hrg
        have hmem : m ∈ x.queue := by rw [hm, qAt_lt hjl]; exact List.getElem_mem hjl
        have htr := tries_pos HXG.out HRT.out.c0 HRT.out.c1 hmem
        obtain ⟨M, hM⟩ : ∃ M, M = msgC m := ⟨_, rfl⟩
        rw [← hM] at hrg
        obtain ⟨M2, hM2⟩ : ∃ M, M = msgC (lease t m) := ⟨_, rfl⟩
        have HRG := Lib.hid hrg
        have HMI := Lib.hid hm
        have HM2E := Lib.hid hM2
        have HMS := Lib.hid (show (Tryz.prog.info? 45).map (·.size) = some M.length by rw [hM]; exact size45)
        have HMT := Lib.hid (show (Tryz.prog.info? 45).map (·.size) = some M.toArray.size by rw [hM]; exact size45)
        have HMO := Lib.hid (show (#[.int .i64 0, .string ⟨#[]⟩, .string ⟨#[]⟩, .int .i64 0, .int .i64 0, .bool false, .string ⟨#[]⟩, .int .i64 0] : Array Value).size = M.toArray.size by rw [hM]; rfl)
        have HMA := Lib.hid (show M.toArray.all (·.oneCell') = true by rw [hM]; exact msg_all m)
        have HMS2 := Lib.hid (show (Tryz.prog.info? 45).map (·.size) = some M2.length by rw [hM2]; exact size45)
        have HMT2 := Lib.hid (show (Tryz.prog.info? 45).map (·.size) = some M2.toArray.size by rw [hM2]; exact size45)
        have HMA2 := Lib.hid (show M2.toArray.all (·.oneCell') = true by rw [hM2]; exact msg_all _)
        have hbm := boxM_wh wr M
        have hbb := boxM_below wr M
        obtain ⟨WA, hWA⟩ : ∃ W, W = boxM wr M := ⟨_, rfl⟩
        rw [← hWA] at hbm hbb
        have hwm : wr.heap.size < WA.heap.size := (Array.getElem?_eq_some_iff.1 hbm).1
        have HBMA := Lib.hid hbm
        have HBBA := Lib.hid hbb
        have HWMA := Lib.hid hwm
        have HWA := Lib.hid hWA
        have HTR := Lib.hid htr
        have HMM := Lib.hid hM
        have HJQ := Lib.hid hjq
        have HG2 := Lib.hid (show w.heap.size + 3 ≤ g2 ∧ g2 < wr.heap.size from ⟨Nat.le_trans HNW.out hg2b, hg2l⟩)
        have HIP := Lib.hid hip
        have HJL := Lib.hid hjl
        have HGL3 := Lib.hid (And.intro hglb hgll)
        have q4 : (0 : Int) ≤ (jn : Int) := by omega
        have q5 : (jn : Int) < (x.queue.length : Int) := by omega
        clear e1 e2 e3 hm hM hM2 hrg hbm hbb hWA hwm hoq hqln hglb hgll hg2b hg2l hjn hmem htr
        go_wp2_with (first | (refine wpList_stop 32 rfl ?_) | (refine wpList_load_midG (by rfl) 45 (.tmp 30) rfl g2 (jn * 8) rfl _ _ HRG.out Tryz.underlying45 rfl HMS.out ?_) | (refine wpList_store_row rfl 45 (.tmp 8) (.tmp 31) rfl wr.heap.size M.toArray rfl rfl 45 #[.int .i64 0, .string ⟨#[]⟩, .string ⟨#[]⟩, .int .i64 0, .int .i64 0, .bool false, .string ⟨#[]⟩, .int .i64 0] (boxM_old wr) HMT.out HMO.out HMA.out ?_; rw [boxM_def]; rw [← HWA.out]) | fail)
        refine wpStop_go ?_
        clear kl kW8 q2 q3 q4 q5 HRG HMS HMT HMO HMA
        have kA3 := HBMA.out.cv 3 (v := .int .i64 m.tries) (by rw [HMM.out]; rfl)
        have fA3 := HBMA.out.frozen 3
        have e5 : wrap64 (m.tries + 1) = m.tries + 1 := by have := HTR.out; unfold wrap64; omega
        go_wp2_with (first | (refine wpList_stop 36 rfl ?_) | fail)
        refine wpStop_go ?_
        clear kA3 fA3 e5
        have gB := grown_cell WA wr.heap.size 3 (.int .i64 (m.tries + 1))
        have hmB := HBMA.out.set1 3 (.int .i64 (m.tries + 1))
        have hbB := below_grow HBBA.out gB (fun k e => by cases e; exact Nat.le_refl _) (Nat.le_of_lt HWMA.out)
        have hsB := gB.size
        obtain ⟨WB, hWB⟩ : ∃ W, W = WA.setCell ⟨wr.heap.size, 3, none⟩ (.int .i64 (m.tries + 1)) := ⟨_, rfl⟩
        rw [← hWB] at hmB hbB hsB ⊢
        have HMB := Lib.hid hmB
        have HBB := Lib.hid hbB
        have HSB := Lib.hid (Nat.lt_of_lt_of_le HWMA.out hsB)
        clear hWB gB hmB hbB hsB HWA HBMA HBBA
        have kB0 := HCV0.out _ (HM.out.below HBB.out).a
        have kBl := (HB.out.below HBB.out).cv 4 (v := .int .i64 x.lease) (by rw [HEE.out]; rfl)
        have kB4 := HMB.out.cv 4 (v := .int .i64 m.til) (by rw [HMM.out]; rfl)
        have fB4 := HMB.out.frozen 4
        have e4 := HTW.out
        go_wp2_with (first | (refine wpList_stop 43 rfl ?_) | fail)
        refine wpStop_go ?_
        clear kB0 kBl kB4 fB4 e4
        have gC := grown_cell WB wr.heap.size 4 (.int .i64 t)
        have hmC := HMB.out.set1 4 (.int .i64 t)
        have hbC := below_grow HBB.out gC (fun k e => by cases e; exact Nat.le_refl _) (Nat.le_of_lt HSB.out)
        have hsC := gC.size
        obtain ⟨WC, hWC⟩ : ∃ W, W = WB.setCell ⟨wr.heap.size, 4, none⟩ (.int .i64 t) := ⟨_, rfl⟩
        rw [← hWC] at hmC hbC hsC ⊢
        rw [show (M.set 3 (.int .i64 (m.tries + 1))).set 4 (.int .i64 t) = M2 by rw [HMM.out, HM2E.out]; rfl] at hmC
        have HMC := Lib.hid hmC
        have HBC := Lib.hid hbC
        have HSC := Lib.hid (Nat.lt_of_lt_of_le HSB.out hsC)
        have HRC := Lib.hid hmC.range
        clear hWC gC hmC hbC hsC HMB HBB HSB
        have kC8 := (HB.out.below HBC.out).cv 8 (v := .slice (some ⟨g2, 0, none⟩) x.queue.length cq) (by rw [HEE.out, ← HQS.out]; rfl)
        have hqC := own_below HOQ2.out HBC.out
        obtain ⟨hqD, gD⟩ := OwnQ.set_ hqC HJQ.out (lease t m)
        have hth := OwnQ.there hqC HJQ.out
        rw [← HM2E.out] at hqD gD
        have hm2l : M2.length = 8 := by rw [HM2E.out]; rfl
        have HTH := Lib.hid (show WC.there g2 (jn * 8) M2.toArray.size by simp only [List.size_toArray, hm2l]; exact hth)
        have HQD := Lib.hid hqD
        have HGD := Lib.hid gD
        have q4 : (0 : Int) ≤ (jn : Int) := by omega
        have q5 : (jn : Int) < (x.queue.length : Int) := by have := HJL.out; omega
        clear hqC hqD gD hth hm2l
        go_wp2_with (first | (refine wpList_stop 49 rfl ?_) | (refine wpList_load_midG (by rfl) 45 (.tmp 8) rfl wr.heap.size 0 rfl _ _ HRC.out Tryz.underlying45 rfl HMS2.out ?_) | (refine wpList_store_midL rfl 45 (.tmp 47) (.tmp 46) rfl g2 (jn * 8) M2.toArray rfl rfl HTH.out HMT2.out HMA2.out ?_) | fail)
        refine wpStop_go ?_
        clear kC8 q4 q5
        try simp only [List.toList_toArray]
        obtain ⟨WD, hWD⟩ : ∃ W, W = WC.setCells g2 (jn * 8) M2 := ⟨_, rfl⟩
        have hqD := HQD.out
        have gD := HGD.out
        rw [← hWD] at hqD gD ⊢
        have hmD := HMC.out.kept gD (by have := HG2.out; simp; omega)
        have hoD : OwnQ WD w9.heap.size _ _ := (own_below HO.out HBC.out).kept gD (.inr (fun e => by have := (HO.out.lt _ e).1; have := HG9.out; omega))
        have hiD : OI (w5.heap.size + 1) WD (.slice (some ⟨gl, 0, none⟩) P.length cl) (natI P) := by
          have h1 := HI.out
          rw [HLS.out] at h1
          exact (own_below h1 HBC.out).kept gD (own_ne_own (own_below h1 HBC.out) (own_below HOQ2.out HBC.out) (by decide))
        have haD : OwnA WD W0.heap.size av x.acks := (own_below HA.out HBC.out).kept gD (own_ne_own (own_below HA.out HBC.out) (own_below HOQ2.out HBC.out) (by decide))
        have hMD := (HM.out.below HBC.out).grown gD HG2.out.1
        have hbD := (HB.out.below HBC.out).kept gD (by have := HG5.out; simp; omega)
        have HRD2 := Lib.hid hmD.range
        have HOD := Lib.hid hoD
        have HID := Lib.hid hiD
        have HAD := Lib.hid haD
        have HMD := Lib.hid hMD
        have HBD := Lib.hid hbD
        have HQD2 := Lib.hid hqD
        have HSD := Lib.hid (show w9.heap.size ≤ WD.heap.size from Nat.le_trans HKS.out (Nat.le_trans (Nat.le_of_lt HSC.out) gD.size))
        have HJP := Lib.hid (show ((P.take i).map fun j => lease t (qAt x.queue j)).length ≤ 30 by rw [List.length_map, List.length_take]; exact Nat.le_trans (Nat.min_le_right _ _) hpl30)
        clear hqD gD hWD hmD hoD hiD haD hMD hbD HQD HGD HMC HRC HTH HO HI HA HM HB HQ HOQ2
        have hlit : M2 = [.int .i64 m.seq, sv m.body, sv m.attr, .int .i64 (m.tries + 1), .int .i64 t, .bool m.dead, sv m.why, .int .i64 m.prio] := by rw [HM2E.out]; rfl
        have HRD3 := Lib.hid (show WD.rangeAt wr.heap.size 0 [.int .i64 m.seq, sv m.body, sv m.attr, .int .i64 (m.tries + 1), .int .i64 t, .bool m.dead, sv m.why, .int .i64 m.prio] by rw [← hlit]; exact HRD2.out)
        have HSR := Lib.hid (src_cells (P := Tryz.prog) WD rfl Tryz.underlying28 45 [.int .i64 m.seq, sv m.body, sv m.attr, .int .i64 (m.tries + 1), .int .i64 t, .bool m.dead, sv m.why, .int .i64 m.prio] (by simp [Value.oneCell']))
        have HLI := Lib.hid (show ((P.take i).map fun j => lease t (qAt x.queue j)) ++ [lease t m] = ((P.take (i + 1)).map fun j => lease t (qAt x.queue j)) by rw [HE2.out, HMI.out])
        have HLC := Lib.hid (show (((P.take i).map fun j => lease t (qAt x.queue j)).map msgC).flatten ++ [.int .i64 m.seq, sv m.body, sv m.attr, .int .i64 (m.tries + 1), .int .i64 t, .bool m.dead, sv m.why, .int .i64 m.prio] = ((((P.take i).map fun j => lease t (qAt x.queue j)) ++ [lease t m]).map msgC).flatten by rw [List.map_append, List.flatten_append]; rfl)
        have HQE := Lib.hid (show (leaseQ t (P.take i) x.queue).set jn (lease t m) = leaseQ t (P.take (i + 1)) x.queue by rw [HE1.out, HMI.out])
        have HOBK := Lib.hid (fun k h => (HOD.out.lt k h).1)
        clear hlit
        go_wp2_with (first | (refine wpList_load_midG (by rfl) 45 (.tmp 8) rfl wr.heap.size 0 rfl _ _ HRD3.out Tryz.underlying45 rfl size45 ?_) | (at_builtin; refine wpList_own rfl (.tmp 48) (.tmp 50) 28 28 rfl w9.heap.size 45 (.agg #[.int .i64 0, .string ⟨#[]⟩, .string ⟨#[]⟩, .int .i64 0, .int .i64 0, .bool false, .string ⟨#[]⟩, .int .i64 0]) 8 88 Tryz.underlying28 infoMsg rfl rfl (own_below HOD.out ((Below.refl _ WD).alloc (Nat.le_refl _) _)) rfl HSR.out (W := WD) (B := w9.heap.size) ((Below.refl _ WD).alloc HSD.out _) (Nat.le_refl _) ?_ ?_ ?_ ?_) | fail)
        · unfold maxLen; have := HJP.out; omega
        · have := HJP.out; omega
        · have := HSD.out; (first | omega | (simp; omega))
        · intro v8 w8 hown8 _ hgr8
          have b1 : Below WD.heap.size WD _ := (Below.refl _ WD).alloc (Nat.le_refl _) (.cells #[.int .i64 m.seq, sv m.body, sv m.attr, .int .i64 (m.tries + 1), .int .i64 t, .bool m.dead, sv m.why, .int .i64 m.prio] 45)
          have hrk : ∀ k, k < w9.heap.size → ∀ (v : Value), v.ownBlock = some k → True := fun _ _ _ _ => trivial
          have m8 := (HMD.out.below b1).grownO hgr8 (fun k e => by have := HOBK.out k e; have := HK3.out; have := HN5.out; omega)
          have b8 := (HBD.out.below b1).kept hgr8 (fun e => by have := HOBK.out _ e.symm; have := HK3.out; omega)
          have a8 : OwnA w8 W0.heap.size av x.acks := (own_below HAD.out b1).kept hgr8 (own_ne_own (own_below HAD.out b1) (own_below HOD.out b1) (by decide))
          have q8 : OwnQ w8 W0.heap.size (.slice (some ⟨g2, 0, none⟩) (leaseQ t (P.take i) x.queue).length cq) ((leaseQ t (P.take i) x.queue).set jn (lease t m)) := (own_below HQD2.out b1).kept hgr8 (.inr (fun e => by have := HOBK.out g2 e.symm; have := HG9.out; omega))
          have i8 : OI (w5.heap.size + 1) w8 (.slice (some ⟨gl, 0, none⟩) P.length cl) (natI P) := (own_below HID.out b1).kept hgr8 (own_ne_own (own_below HID.out b1) (own_below HOD.out b1) (by decide))
          rw [HQE.out, leaseQ_len] at q8
          have o8 : OwnQ w8 w9.heap.size v8 ((P.take (i + 1)).map fun j => lease t (qAt x.queue j)) := by
            have h1 := hown8
            rw [show (List.take i (P.map (msgC ∘ fun j => lease t (qAt x.queue j)))).flatten = (((P.take i).map fun j => lease t (qAt x.queue j)).map msgC).flatten by rw [List.map_map, List.map_take]] at h1
            rw [HLC.out, HLI.out] at h1
            show World.ownsRow _ _ _ _ _ ((P.take (i + 1)).map _).length _
            rw [List.length_map, List.length_take, Nat.min_eq_left HIP.out]
            exact h1
          have hs8 := hgr8.size
          have hs1 := b1.size
          have HF8 := Lib.hid (show FetI w AC E w5.heap.size W0.heap.size w9.heap.size qv lv av x t P (i + 1) v8 w8 from ⟨m8, b8, a8, by rw [HQS.out]; exact q8, by rw [HLS.out]; exact i8, o8, by have := HSD.out; omega⟩)
          clear m8 b8 a8 q8 i8 o8 hown8 hgr8 b1 hrk hs8 hs1
          go_wp2_with fail
          go_roundw
          case rel => exact ⟨i + 1, by have := HIP.out; omega, by go_num, HF8.out⟩
          case measure => have := HIP.out; simp [intOf]; omega
end Go.Proofs.YtodckdkbheapfaaGreat
