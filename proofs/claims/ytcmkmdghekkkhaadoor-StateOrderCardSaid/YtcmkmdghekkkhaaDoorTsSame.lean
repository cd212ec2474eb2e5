/-
  The contracts of the document's own SameMessages (layer state): a struct compared.
-/
import Derived.Test.YtcmkmdghekkkhaaDoorTsSettleM
import Derived.Laws.StructEq
import Derived.Test.YtcmkmdghekkkhaaDoorTsLd
set_option linter.unusedVariables false
namespace Go.Proofs.YtcmkmdghekkkhaaDoor
open Go.RowKit Go.Rst Go.Tp Go.Ts
theorem fieldsMsg : (Tryd.prog.fieldsOf 55).toList.map (fun f => (f.name == "_", f.type, f.offset)) = [(false, 3, 0), (false, 9, 1), (false, 9, 2), (false, 3, 3), (false, 3, 4), (false, 4, 5), (false, 9, 6), (false, 3, 7)] := by kernel_rfl
set_option maxRecDepth 100000 in
theorem neq_msg (m n : Msg) (W : World) : (binOp .neq 55 (.agg (msgC m).toArray) (.agg (msgC n).toArray)).run Tryd.prog W = .ok (.bool (!decide (m = n))) W := by
  rw [run_neq_struct, run_equalIn_agg W 9999 _ _ _ (by kernel_rfl) (by kernel_rfl)]
  obtain ⟨a1, a2, a3, a4, a5, a6, a7, a8⟩ := m
  obtain ⟨b1, b2, b3, b4, b5, b6, b7, b8⟩ := n
  simp only [msgC]
  go_simp
  (repeat' split) <;> simp_all
theorem exec_neq_msg {a : Act} {oi : Oper} {W : World} (x y : Operand) {rt : TypeId} (ho : oi.op = .binOp .neq 55 x y rt) (m n : Msg) (hx : a.eval x = .agg (msgC m).toArray) (hy : a.eval y = .agg (msgC n).toArray) :
    (execOp a.eval oi).run Tryd.prog W = .ok (.value (.bool (!decide (m = n)))) W := by
  unfold execOp
  simp only [ho, hx, hy, Sem.run_bind, run_eqGuard_agg (P := Tryd.prog) W .neq 55 x y _ _ (by kernel_rfl), Result.andThen_ok, neq_msg, Sem.run_pure]
theorem take_same {α : Type} {l r : List α} {k : Nat} (hk : k < l.length) (hr : k < r.length) : l.take (k + 1) = r.take (k + 1) ↔ (l.take k = r.take k ∧ l[k] = r[k]) := by
  rw [List.take_succ_eq_append_getElem hk, List.take_succ_eq_append_getElem hr]
  constructor
  · intro h
    have := List.append_inj' h rfl
    exact ⟨this.1, by simpa using this.2⟩
  · rintro ⟨h1, h2⟩; rw [h1, h2]
set_option maxRecDepth 100000 in
set_option maxHeartbeats 4000000 in
theorem sameMsgs_any {va vb : Value} {xs ys : List Msg} {w : World} (ha : RM w va xs) (hb : RM w vb ys) :
    Calls Tryd.prog 21 #[va, vb] w fun e w' => e = .returned (.bool (decide (xs = ys))) ∧ Below w.heap.size w w' := by
  obtain ⟨A, ca, rfl, _, ham⟩ := ha.shape
  obtain ⟨B, cb, rfl, _, hbm⟩ := hb.shape
  unfold maxLen at ham hbm
  by_cases hlen : xs.length = ys.length
  · rw [← hlen] at hb ⊢
    have HA := Lib.hid ha
    have HB := Lib.hid hb
    have HL := Lib.hid hlen
    have hne : ((xs.length : Int) != (xs.length : Int)) = false := by simp
    obtain ⟨r, hr⟩ : ∃ r, decide (xs = ys) = r := ⟨_, rfl⟩
    rw [hr]
    have HR := Lib.hid hr
    clear ha hb hlen hr
    go_enter Tryd.func21, Tryd.ntmps21
    go_wp2
    go_loopw [5] (fun i wr => ∃ k : Nat, k ≤ xs.length ∧ i = .int .i64 k ∧ xs.take k = ys.take k ∧ Below w.heap.size w wr) (fun i _ => xs.length - (intOf i).toNat)
    case atStart => exact ⟨0, Nat.zero_le _, rfl, rfl, Below.refl _ _⟩
    case round =>
      obtain ⟨k, hk, rfl, hal, hbel⟩ := hrel
      have HBW := Lib.hid hbel
      have HAL := Lib.hid hal
      clear hbel hal
      by_cases hlt : k < xs.length
      · obtain ⟨b1, o1, rfl, hb1, hr1⟩ := rm_at HA.out hlt
        obtain ⟨b2, o2, rfl, hb2, hr2⟩ := rm_at HB.out (show k < ys.length by rw [← HL.out]; exact hlt)
        have HR1 := Lib.hid (range_below hr1 hb1 HBW.out)
        have HR2 := Lib.hid (range_below hr2 hb2 HBW.out)
        have hl1 : b1 < wr.heap.size := Nat.lt_of_lt_of_le hb1 HBW.out.size
        have hl2 : b2 < wr.heap.size := Nat.lt_of_lt_of_le hb2 HBW.out.size
        have HTS := Lib.hid (take_same hlt (show k < ys.length by rw [← HL.out]; exact hlt))
        have HNE := Lib.hid (show xs[k] ≠ ys[k]'(by rw [← HL.out]; exact hlt) → xs ≠ ys from fun h e => h (by subst e; rfl))
        obtain ⟨m, hm⟩ : ∃ m, m = xs[k] := ⟨_, rfl⟩
        obtain ⟨n, hn⟩ : ∃ n, n = ys[k]'(by rw [← HL.out]; exact hlt) := ⟨_, rfl⟩
        rw [← hm] at HR1
        rw [← hn] at HR2
        rw [← hm, ← hn] at HTS HNE
        have q1 : (k : Int) < (xs.length : Int) := by omega
        clear hr1 hr2 hm hn
        go_wp2_with fail
        refine wp_region_held_drew (S := SB [wr]) (by kernel_rfl) (SB.start _) (fun hHeld => ?_)
        refine tkC 0 ?_
        refine tkC 1 ?_
        refine tkC 2 ?_
        refine tkA 3 (v := .agg (msgC m).toArray) (fun W hSw => exec_load_mid 55 (.tmp 19) rfl b1 (o1 + k * 8) rfl _ _ (range_below HR1.out hl1 (SB.b0 hSw)) Tryd.underlying55 rfl size57) ?_
        try simp only [Act.put, zA, zB, zC]
        refine tkC 4 ?_
        refine tkC 5 ?_
        refine tkC 6 ?_
        refine tkA 7 (v := .agg (msgC n).toArray) (fun W hSw => exec_load_mid 55 (.tmp 23) rfl b2 (o2 + k * 8) rfl _ _ (range_below HR2.out hl2 (SB.b0 hSw)) Tryd.underlying55 rfl size57) ?_
        try simp only [Act.put, zA, zB, zC]
        refine tkA 8 (v := .bool (!decide (m = n))) (fun W hSw => exec_neq_msg (.tmp 20) (.tmp 24) rfl m n rfl rfl) ?_
        try simp only [Act.put, zA, zB, zC]
        refine wpAnyH_done (by kernel_rfl) ?_ _
        clear hHeld
        obtain ⟨wd, hwd⟩ : ∃ wd, wd = wr.drew := ⟨_, rfl⟩
        have HBD := Lib.hid (show Below w.heap.size w wd by rw [hwd]; exact HBW.out.drew)
        rw [← hwd]
        clear hwd
        by_cases he : m = n
        · have hd : decide (m = n) = true := by simp [he]
          have HN := Lib.hid (HTS.out.2 ⟨HAL.out, he⟩)
          rw [hd, Bool.not_true]
          clear hd he
          go_wp2
          go_roundw
          case rel => exact ⟨k + 1, by omega, by go_num, HN.out, HBD.out⟩
          case measure => simp [intOf]; omega
        · have hd : decide (m = n) = false := by simp [he]
          have HE := Lib.hid (show r = false by rw [← HR.out]; exact decide_eq_false (HNE.out he))
          rw [hd, Bool.not_false]
          clear hd he
          go_wp2
          go_ret
          exact ⟨by rw [HE.out]; rfl, HBD.out⟩
      · have q1 : ¬ (k : Int) < (xs.length : Int) := by omega
        have HE := Lib.hid (show r = true by rw [← HR.out]; have h := HAL.out; rw [List.take_of_length_le (by omega), List.take_of_length_le (by rw [← HL.out]; omega)] at h; exact decide_eq_true h)
        go_wp2
        go_ret
        exact ⟨by rw [HE.out]; rfl, HBW.out⟩
  · have hne : ((xs.length : Int) != (ys.length : Int)) = true := by simp; omega
    have HE := Lib.hid (show decide (xs = ys) = false from decide_eq_false fun e => hlen (by rw [e]))
    have hni : ¬ ((xs.length : Int) = (ys.length : Int)) := by omega
    clear ha hb
    go_enter Tryd.func21, Tryd.ntmps21
    go_wp2
    go_ret
    exact ⟨by rw [HE.out]; rfl, Below.refl _ _⟩
end Go.Proofs.YtcmkmdghekkkhaaDoor
