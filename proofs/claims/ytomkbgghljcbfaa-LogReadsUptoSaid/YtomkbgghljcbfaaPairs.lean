/-
  The contracts of the program's pairs: a function that tells, key by key, the rows that two lists have of it.
-/
import Derived.Test.YtomkbgghljcbfaaGRf
import Derived.Test.YtomkbgghljcbfaaGChg
import Derived.Test.YtomkbgghljcbfaaGPg
import Derived.Deep.QuietTactic
import Derived.BigQuiet
namespace Go.Pg
open Go.Rst Go.Crc
/-- The pairs of two lists, key by key. -/
def mergeL : List Rw → List Rw → List (Option Rw × Option Rw)
  | [], b => b.map fun y => (none, some y)
  | x :: a, [] => (some x, none) :: mergeL a []
  | x :: a, y :: b => if x.1.toList = y.1.toList then (some x, some y) :: mergeL a b
    else if Op.bytesLess x.1.toList y.1.toList = true then (some x, none) :: mergeL a (y :: b) else (none, some y) :: mergeL (x :: a) b
termination_by a b => a.length + b.length
/-- What a pair changes. -/
def emitL : Option Rw × Option Rw → List Chg
  | (some x, none) => [goneL x]
  | (none, some y) => [putL y]
  | (some x, some y) => if x.2 = y.2 then [] else [putL y]
  | (none, none) => []
theorem emit_map (b : List Rw) : (b.map fun y => ((none : Option Rw), some y)).flatMap emitL = b.map putL := by
  induction b with
  | nil => rfl
  | cons y b ih => rw [List.map_cons, List.flatMap_cons, ih]; rfl
theorem merge_diff : ∀ a b : List Rw, (mergeL a b).flatMap emitL = diffL a b
  | [], b => by rw [mergeL, diffL, emit_map]
  | x :: a, [] => by rw [mergeL, diffL, List.flatMap_cons, merge_diff a []]; rfl
  | x :: a, y :: b => by
    rw [mergeL, diffL]
    split
    · rw [List.flatMap_cons, merge_diff a b]
      show (if x.2 = y.2 then [] else [putL y]) ++ diffL a b = _
      split <;> rfl
    · split
      · rw [List.flatMap_cons, merge_diff a (y :: b)]; rfl
      · rw [List.flatMap_cons, merge_diff (x :: a) b]; rfl
termination_by a b => a.length + b.length
theorem merge_nil (b : List Rw) : mergeL [] b = b.map fun y => (none, some y) := by rw [mergeL]
theorem merge_len : ∀ a b : List Rw, (mergeL a b).length ≤ a.length + b.length
  | [], b => by rw [mergeL, List.length_map]; simp
  | x :: a, [] => by have := merge_len a []; rw [mergeL]; simp only [List.length_cons, List.length_nil] at this ⊢; omega
  | x :: a, y :: b => by
    have h1 := merge_len a b
    have h2 := merge_len a (y :: b)
    have h3 := merge_len (x :: a) b
    rw [mergeL]
    simp only [List.length_cons] at h2 h3 ⊢
    split
    · simp only [List.length_cons]; omega
    · split <;> simp only [List.length_cons] <;> omega
termination_by a b => a.length + b.length
end Go.Pg
namespace Go.Proofs.Ytomkbgghljcbfaa
open Go.RowKit Go.Rst Go.Pg Go.Crc Go.Shelf
attribute [local go_sem] Oper.semAt_some

theorem yield_at {F : Fence} {n m : Nat} {P : Program} {o : Oper} {a : Act} {K : Act → World → Prop} {Q : Exit → Act → World → Prop} {l : Nat} {args : Array Value} {W : World} {R : Ending → World → Prop} (h : YieldAt F m P l args W R)
    (hk : ∀ fn tmps assign body, RoundIn F m P l fn tmps assign body W R → Oper.uponIn F n P o a K Q (.ok (.round l fn tmps assign body) W)) : Oper.uponIn F n P o a K Q ((Instr.yield l args).run P W) := by
  obtain ⟨fn, tmps, assign, body, hy, hr⟩ := h
  rw [hy]
  exact hk _ _ _ _ hr
/-- A pointer to a row that lies there; nil. -/
def PtrTo (W : World) (v : Value) : Option Rw → Prop
  | none => v = .pointer none
  | some r => ∃ b off u, v = .pointer (some ⟨b, off, none⟩) ∧ b < W.heap.size ∧ W.cell? ⟨b, off, none⟩ = some (.string r.1) ∧ W.cell? ⟨b, off + 1, none⟩ = some u ∧ RB W u r.2
/-- A pair that is told. -/
abbrev Pr (w : World) : Type := { x : (Value × Value) × (Option Rw × Option Rw) // PtrTo w x.1.1 x.2.1 ∧ PtrTo w x.1.2 x.2.2 ∧ (x.2.1 ≠ none ∨ x.2.2 ≠ none) ∧ ∀ r, x.2.2 = some r → r.2.length ≤ 140737488355328 }
/-- What is there all along: what came in, and the two boxes. -/
def DK (w : World) (fv tv : Value) (X : World) : Prop := Below w.heap.size w X ∧ Boxed X (w.heap.size + 1) 34 fv ∧ Boxed X (w.heap.size + 1 + 1) 34 tv
def KeepsD (w : World) (fv tv : Value) (A B : World) : Prop := DK w fv tv A → DK w fv tv B

set_option maxHeartbeats 1000000 in
theorem pairs_in (n : Nat) (fv tv : Value) (w : World) (h1 : fv.oneCell' = true) (h2 : tv.oneCell' = true) :
    CallsIn Fence.wide n Try.prog 39 #[fv, tv] w fun e w' => e = .returned (.func (.func 59) #[] #[.pointer (some ⟨w.heap.size, 0, none⟩), .pointer (some ⟨w.heap.size + 1, 0, none⟩)]) ∧ w' = (w.alloc (.cells #[fv] 34)).alloc (.cells #[tv] 34) := by
  refine callsIn_of_wp Try.func39 rfl trivial ?_ rfl
  simp only [Try.ntmps39, List.size_toArray, List.length_cons, List.length_nil, Nat.reduceAdd, Nat.reduceSub, Array.replicate_succ, Array.replicate_zero, List.push_toArray, List.append_toArray, List.nil_append, List.cons_append]
  gi_wp2
  go_ret
  exact ⟨rfl, rfl⟩

set_option maxRecDepth 100000 in
set_option maxHeartbeats 8000000 in
theorem pairs_stops (n : Nat) (A1 A2 : Option Addr) (c1 c2 : Nat) (fs ts : List Rw) (w W0 : World) (hf : RR w (.slice A1 fs.length c1) fs) (ht : RR w (.slice A2 ts.length c2) ts)
    (hD : DK w (.slice A1 fs.length c1) (.slice A2 ts.length c2) W0) (hB : w.heap.size + 1 + 1 < W0.heap.size) (hl1 : fs.length ≤ 1000000000) (hl2 : ts.length ≤ 1000000000) (hvl : ∀ r ∈ ts, r.2.length ≤ 140737488355328) :
    SeqStopsK Fence.wide n Try.prog 59 #[.pointer (some ⟨w.heap.size + 1, 0, none⟩), .pointer (some ⟨w.heap.size + 1 + 1, 0, none⟩)] (fun x : Pr w => #[x.1.1.1, x.1.1.2]) (KeepsD w (.slice A1 fs.length c1) (.slice A2 ts.length c2))
      (fun ys => ys.map (·.1.2) = mergeL fs ts) (fun pre => pre.map (·.1.2) <+: mergeL fs ts) (fs.length + ts.length + 1) W0 :=
  fun l J Jx W hW hJ hJx hY h0 => by
  have hDW : DK w (.slice A1 fs.length c1) (.slice A2 ts.length c2) W := ⟨hD.1.trans (hW.mono hD.1.size), (hW.block (w.heap.size + 1) (by omega)).trans hD.2.1, (hW.block (w.heap.size + 1 + 1) (by omega)).trans hD.2.2⟩
  refine callsIn_of_wp Try.func59 rfl trivial ?_ rfl
  simp only [Try.ntmps59, List.size_toArray, List.length_cons, List.length_nil, Nat.reduceAdd, Nat.reduceSub, Array.replicate_succ, Array.replicate_zero, List.push_toArray, List.append_toArray, List.nil_append, List.cons_append]
  have HY := Lib.hid hY
  have HJ := Lib.hid hJ
  have HF := Lib.hid hf
  have HT := Lib.hid ht
  have HVL := Lib.hid hvl
  have HDW := Lib.hid hDW
  clear hJ hJx hY hf ht hD hDW hvl
  gi_wp2
  gi_loopw [4, 5] (fun iv kv wr => ∃ (pre : List (Pr w)) (i k : Nat), iv = .int .i64 i ∧ kv = .int .i64 k ∧ i ≤ fs.length ∧ k ≤ ts.length ∧ DK w (.slice A1 fs.length c1) (.slice A2 ts.length c2) wr ∧ J pre wr ∧ pre.map (·.1.2) ++ mergeL (fs.drop i) (ts.drop k) = mergeL fs ts ∧ pre.length ≤ i + k)
    (fun iv kv _ => (fs.length - (intOf iv).toNat) + (ts.length - (intOf kv).toNat))
  case atStart => exact ⟨[], 0, 0, rfl, rfl, Nat.zero_le _, Nat.zero_le _, HDW.out, h0, rfl, by simp⟩
  case round =>
    obtain ⟨pre, i, k, rfl, rfl, hi, hk, hd, hj, hm, hpl⟩ := hrel
    -- the cases
    by_cases hin : i < fs.length
    · by_cases hkn : k < ts.length
      · by_cases he : fs[i].1.toList = ts[k].1.toList
        · have hcmp := he
          obtain ⟨b1, o1, u1, rfl, hx1, hy1, hr1⟩ := rr_at HF.out hin
          have hbw1 : b1 < w.heap.size := block_lt_of_cell hx1
          have hX1 := (hd.1.cell (p := ⟨b1, o1 + i * 2, none⟩) hbw1).trans hx1
          have hP1 : PtrTo w (.pointer (some ⟨b1, o1 + i * 2, none⟩)) (some fs[i]) := ⟨b1, o1 + i * 2, u1, rfl, hbw1, hx1, hy1, hr1⟩
          obtain ⟨b2, o2, u2, rfl, hx2, hy2, hr2⟩ := rr_at HT.out hkn
          have hbw2 : b2 < w.heap.size := block_lt_of_cell hx2
          have hX2 := (hd.1.cell (p := ⟨b2, o2 + k * 2, none⟩) hbw2).trans hx2
          have hP2 : PtrTo w (.pointer (some ⟨b2, o2 + k * 2, none⟩)) (some ts[k]) := ⟨b2, o2 + k * 2, u2, rfl, hbw2, hx2, hy2, hr2⟩
          have hB1 := hd.2.1.cell
          have hB2 := hd.2.2.cell
          have hB1' := fun j => (show (wr.drewN j).cell? ⟨w.heap.size + 1, 0, none⟩ = _ from hB1)
          have hB2' := fun j => (show (wr.drewN j).cell? ⟨w.heap.size + 1 + 1, 0, none⟩ = _ from hB2)
          have hmm : mergeL (fs.drop i) (ts.drop k) = (some fs[i], some ts[k]) :: mergeL (fs.drop (i + 1)) (ts.drop (k + 1)) := by
            rw [List.drop_eq_getElem_cons hin, List.drop_eq_getElem_cons hkn, mergeL, if_pos hcmp]
          obtain ⟨X, hX⟩ : ∃ X : Pr w, X = ⟨((.pointer (some ⟨b1, o1 + i * 2, none⟩), .pointer (some ⟨b2, o2 + k * 2, none⟩)), (some fs[i], some ts[k])), hP1, hP2, .inl (by simp), fun r h => by injection h with h; rw [← h]; exact HVL.out _ (List.getElem_mem hkn)⟩ := ⟨_, rfl⟩
          have hv1 : X.1.1.1 = .pointer (some ⟨b1, o1 + i * 2, none⟩) := by rw [hX]
          have hv2 : X.1.1.2 = .pointer (some ⟨b2, o2 + k * 2, none⟩) := by rw [hX]
          have hv3 : X.1.2 = (some fs[i], some ts[k]) := by rw [hX]
          rw [hmm] at hm
          have hyy : ∀ m, YieldAt Fence.wide (n - 1) Try.prog l #[.pointer (some ⟨b1, o1 + i * 2, none⟩), .pointer (some ⟨b2, o2 + k * 2, none⟩)] (wr.drewN m) (fun e W' => (e = .returned (.bool true) ∧ J (pre ++ [X]) W' ∧ KeepsD w (.slice (some ⟨b1, o1, none⟩) fs.length c1) (.slice (some ⟨b2, o2, none⟩) ts.length c2) (wr.drewN m) W') ∨ (e = .returned (.bool false) ∧ Jx (pre ++ [X]) W')) := fun m => by
            have h := HY.out pre X (wr.drewN m) (HJ.out pre wr (wr.drewN m) none hj (grown_none (bel_drewN wr m)) (fun r h => by cases h)) (by omega)
            rw [hv1, hv2] at h
            exact h
          obtain ⟨k1, hk1⟩ : ∃ x, x = fs[i].1 := ⟨_, rfl⟩
          obtain ⟨k2, hk2⟩ : ∃ x, x = ts[k].1 := ⟨_, rfl⟩
          rw [← hk1] at hX1 hcmp
          rw [← hk2] at hX2 hcmp
          have hX1' := fun j => (show (wr.drewN j).cell? ⟨b1, o1 + i * 2, none⟩ = _ from hX1)
          have hX2' := fun j => (show (wr.drewN j).cell? ⟨b2, o2 + k * 2, none⟩ = _ from hX2)
          have f0 := bl_irrefl k1.toList
          have f1 : Op.bytesLess k1.toList k2.toList = false := by rw [← hcmp]; exact f0
          have f2 : Op.bytesLess k2.toList k1.toList = false := by rw [← hcmp]; exact f0
          have f3 : (k1.toList == k2.toList) = true := by rw [beq_iff_eq]; exact hcmp
          have f4 : (k2.toList == k1.toList) = true := by rw [beq_iff_eq]; exact hcmp.symm
          have HRD := Lib.hid hyy
          have hdd : ∀ m, DK w (.slice (some ⟨b1, o1, none⟩) fs.length c1) (.slice (some ⟨b2, o2, none⟩) ts.length c2) (wr.drewN m) := fun m => ⟨hd.1.trans ((bel_drewN wr m).mono hd.1.size), hd.2.1, hd.2.2⟩
          have HM := Lib.hid hm
          have HD := Lib.hid hdd
          have HV3 := Lib.hid hv3
          clear hyy hdd hm hd hj hX hmm hv1 hv2 hv3
          clear hx1 hy1 hr1 hP1
          clear hx2 hy2 hr2 hP2
          clear hk1 hk2 hcmp
          have e1 : ((i : Int) == (fs.length : Int)) = false := by rw [beq_eq_false_iff_ne]; omega
          have e2 : (i : Int) < fs.length := by omega
          have e2' : (0 : Int) ≤ (i : Int) := by omega
          have e3 : ((k : Int) == (ts.length : Int)) = false := by rw [beq_eq_false_iff_ne]; omega
          have e4 : (k : Int) < ts.length := by omega
          have e4' : (0 : Int) ≤ (k : Int) := by omega
          gi_wp2
          refine wpIn_wide.2 ?_
          go_quiet (fail)
          gi_wp2
          refine wpIn_wide.2 ?_
          go_quiet (fail)
          gi_wp2_with (refine yield_at (HRD.out _) ?_; intro fn tmps assign body hRd)
          refine ⟨fun h => (by simp [Fence.wide] at h), hRd.mono ?_⟩
          rintro e W3 (⟨rfl, hJ3, hk3⟩ | ⟨rfl, hJx3⟩)
          · have HJ3 := Lib.hid hJ3
            have HD3 := Lib.hid (hk3 (HD.out _))
            clear hJ3 hk3
            gi_wp2
            go_roundw
            case rel => exact ⟨_, i + 1, k + 1, by go_num, by go_num, by omega, by omega, HD3.out, HJ3.out, by rw [List.map_append, List.append_assoc, ← HM.out, List.map_cons, List.map_nil, HV3.out]; rfl, by rw [List.length_append, List.length_singleton]; omega⟩
            case measure => simp [intOf]; omega
          · have HJX := Lib.hid hJx3
            clear hJx3
            gi_wp2
            refine bodyPost_ret (results_none rfl _ _ _) rfl ?_
            exact ⟨⟨_, rfl⟩, .inr ⟨_, by rw [List.map_append, ← HM.out, List.map_cons, List.map_nil, HV3.out]; exact List.prefix_append_right_inj _ |>.2 ⟨_, rfl⟩, HJX.out⟩⟩
        · cases hl : Op.bytesLess fs[i].1.toList ts[k].1.toList with
          | true =>
            have hcmp := hl
            obtain ⟨b1, o1, u1, rfl, hx1, hy1, hr1⟩ := rr_at HF.out hin
            have hbw1 : b1 < w.heap.size := block_lt_of_cell hx1
            have hX1 := (hd.1.cell (p := ⟨b1, o1 + i * 2, none⟩) hbw1).trans hx1
            have hP1 : PtrTo w (.pointer (some ⟨b1, o1 + i * 2, none⟩)) (some fs[i]) := ⟨b1, o1 + i * 2, u1, rfl, hbw1, hx1, hy1, hr1⟩
            obtain ⟨b2, o2, u2, rfl, hx2, hy2, hr2⟩ := rr_at HT.out hkn
            have hbw2 : b2 < w.heap.size := block_lt_of_cell hx2
            have hX2 := (hd.1.cell (p := ⟨b2, o2 + k * 2, none⟩) hbw2).trans hx2
            have hP2 : PtrTo w (.pointer (some ⟨b2, o2 + k * 2, none⟩)) (some ts[k]) := ⟨b2, o2 + k * 2, u2, rfl, hbw2, hx2, hy2, hr2⟩
            have hB1 := hd.2.1.cell
            have hB2 := hd.2.2.cell
            have hB1' := fun j => (show (wr.drewN j).cell? ⟨w.heap.size + 1, 0, none⟩ = _ from hB1)
            have hB2' := fun j => (show (wr.drewN j).cell? ⟨w.heap.size + 1 + 1, 0, none⟩ = _ from hB2)
            have hmm : mergeL (fs.drop i) (ts.drop k) = (some fs[i], none) :: mergeL (fs.drop (i + 1)) (ts.drop (k)) := by
              conv => lhs; rw [List.drop_eq_getElem_cons hin, List.drop_eq_getElem_cons hkn, mergeL, if_neg (bl_ne hcmp), if_pos hcmp, ← List.drop_eq_getElem_cons hkn]
            obtain ⟨X, hX⟩ : ∃ X : Pr w, X = ⟨((.pointer (some ⟨b1, o1 + i * 2, none⟩), .pointer none), (some fs[i], none)), hP1, rfl, .inl (by simp), fun r h => by cases h⟩ := ⟨_, rfl⟩
            have hv1 : X.1.1.1 = .pointer (some ⟨b1, o1 + i * 2, none⟩) := by rw [hX]
            have hv2 : X.1.1.2 = .pointer none := by rw [hX]
            have hv3 : X.1.2 = (some fs[i], none) := by rw [hX]
            rw [hmm] at hm
            have hyy : ∀ m, YieldAt Fence.wide (n - 1) Try.prog l #[.pointer (some ⟨b1, o1 + i * 2, none⟩), .pointer none] (wr.drewN m) (fun e W' => (e = .returned (.bool true) ∧ J (pre ++ [X]) W' ∧ KeepsD w (.slice (some ⟨b1, o1, none⟩) fs.length c1) (.slice (some ⟨b2, o2, none⟩) ts.length c2) (wr.drewN m) W') ∨ (e = .returned (.bool false) ∧ Jx (pre ++ [X]) W')) := fun m => by
              have h := HY.out pre X (wr.drewN m) (HJ.out pre wr (wr.drewN m) none hj (grown_none (bel_drewN wr m)) (fun r h => by cases h)) (by omega)
              rw [hv1, hv2] at h
              exact h
            obtain ⟨k1, hk1⟩ : ∃ x, x = fs[i].1 := ⟨_, rfl⟩
            obtain ⟨k2, hk2⟩ : ∃ x, x = ts[k].1 := ⟨_, rfl⟩
            rw [← hk1] at hX1 hcmp
            rw [← hk2] at hX2 hcmp
            have hX1' := fun j => (show (wr.drewN j).cell? ⟨b1, o1 + i * 2, none⟩ = _ from hX1)
            have hX2' := fun j => (show (wr.drewN j).cell? ⟨b2, o2 + k * 2, none⟩ = _ from hX2)
            have f1 : Op.bytesLess k1.toList k2.toList = true := hcmp
            have f2 := bl_asymm hcmp
            have f3 : (k1.toList == k2.toList) = false := by rw [beq_eq_false_iff_ne]; exact bl_ne hcmp
            have f4 : (k2.toList == k1.toList) = false := by rw [beq_eq_false_iff_ne]; exact (bl_ne hcmp).symm
            have HRD := Lib.hid hyy
            have hdd : ∀ m, DK w (.slice (some ⟨b1, o1, none⟩) fs.length c1) (.slice (some ⟨b2, o2, none⟩) ts.length c2) (wr.drewN m) := fun m => ⟨hd.1.trans ((bel_drewN wr m).mono hd.1.size), hd.2.1, hd.2.2⟩
            have HM := Lib.hid hm
            have HD := Lib.hid hdd
            have HV3 := Lib.hid hv3
            clear hyy hdd hm hd hj hX hmm hv1 hv2 hv3
            clear hx1 hy1 hr1 hP1
            clear hx2 hy2 hr2 hP2
            clear hk1 hk2 hcmp hl he
            have e1 : ((i : Int) == (fs.length : Int)) = false := by rw [beq_eq_false_iff_ne]; omega
            have e2 : (i : Int) < fs.length := by omega
            have e2' : (0 : Int) ≤ (i : Int) := by omega
            have e3 : ((k : Int) == (ts.length : Int)) = false := by rw [beq_eq_false_iff_ne]; omega
            have e4 : (k : Int) < ts.length := by omega
            have e4' : (0 : Int) ≤ (k : Int) := by omega
            gi_wp2
            refine wpIn_wide.2 ?_
            go_quiet (fail)
            gi_wp2
            refine wpIn_wide.2 ?_
            go_quiet (fail)
            gi_wp2_with (refine yield_at (HRD.out _) ?_; intro fn tmps assign body hRd)
            refine ⟨fun h => (by simp [Fence.wide] at h), hRd.mono ?_⟩
            rintro e W3 (⟨rfl, hJ3, hk3⟩ | ⟨rfl, hJx3⟩)
            · have HJ3 := Lib.hid hJ3
              have HD3 := Lib.hid (hk3 (HD.out _))
              clear hJ3 hk3
              gi_wp2
              go_roundw
              case rel => exact ⟨_, i + 1, k, by go_num, by go_num, by omega, by omega, HD3.out, HJ3.out, by rw [List.map_append, List.append_assoc, ← HM.out, List.map_cons, List.map_nil, HV3.out]; rfl, by rw [List.length_append, List.length_singleton]; omega⟩
              case measure => simp [intOf]; omega
            · have HJX := Lib.hid hJx3
              clear hJx3
              gi_wp2
              refine bodyPost_ret (results_none rfl _ _ _) rfl ?_
              exact ⟨⟨_, rfl⟩, .inr ⟨_, by rw [List.map_append, ← HM.out, List.map_cons, List.map_nil, HV3.out]; exact List.prefix_append_right_inj _ |>.2 ⟨_, rfl⟩, HJX.out⟩⟩
          | false =>
            have hcmp := bl_total _ _ hl he
            obtain ⟨b1, o1, u1, rfl, hx1, hy1, hr1⟩ := rr_at HF.out hin
            have hbw1 : b1 < w.heap.size := block_lt_of_cell hx1
            have hX1 := (hd.1.cell (p := ⟨b1, o1 + i * 2, none⟩) hbw1).trans hx1
            have hP1 : PtrTo w (.pointer (some ⟨b1, o1 + i * 2, none⟩)) (some fs[i]) := ⟨b1, o1 + i * 2, u1, rfl, hbw1, hx1, hy1, hr1⟩
            obtain ⟨b2, o2, u2, rfl, hx2, hy2, hr2⟩ := rr_at HT.out hkn
            have hbw2 : b2 < w.heap.size := block_lt_of_cell hx2
            have hX2 := (hd.1.cell (p := ⟨b2, o2 + k * 2, none⟩) hbw2).trans hx2
            have hP2 : PtrTo w (.pointer (some ⟨b2, o2 + k * 2, none⟩)) (some ts[k]) := ⟨b2, o2 + k * 2, u2, rfl, hbw2, hx2, hy2, hr2⟩
            have hB1 := hd.2.1.cell
            have hB2 := hd.2.2.cell
            have hB1' := fun j => (show (wr.drewN j).cell? ⟨w.heap.size + 1, 0, none⟩ = _ from hB1)
            have hB2' := fun j => (show (wr.drewN j).cell? ⟨w.heap.size + 1 + 1, 0, none⟩ = _ from hB2)
            have hmm : mergeL (fs.drop i) (ts.drop k) = (none, some ts[k]) :: mergeL (fs.drop (i)) (ts.drop (k + 1)) := by
              conv => lhs; rw [List.drop_eq_getElem_cons hin, List.drop_eq_getElem_cons hkn, mergeL, if_neg (bl_ne hcmp).symm, if_neg (by rw [bl_asymm hcmp]; decide), ← List.drop_eq_getElem_cons hin]
            obtain ⟨X, hX⟩ : ∃ X : Pr w, X = ⟨((.pointer none, .pointer (some ⟨b2, o2 + k * 2, none⟩)), (none, some ts[k])), rfl, hP2, .inr (by simp), fun r h => by injection h with h; rw [← h]; exact HVL.out _ (List.getElem_mem hkn)⟩ := ⟨_, rfl⟩
            have hv1 : X.1.1.1 = .pointer none := by rw [hX]
            have hv2 : X.1.1.2 = .pointer (some ⟨b2, o2 + k * 2, none⟩) := by rw [hX]
            have hv3 : X.1.2 = (none, some ts[k]) := by rw [hX]
            rw [hmm] at hm
            have hyy : ∀ m, YieldAt Fence.wide (n - 1) Try.prog l #[.pointer none, .pointer (some ⟨b2, o2 + k * 2, none⟩)] (wr.drewN m) (fun e W' => (e = .returned (.bool true) ∧ J (pre ++ [X]) W' ∧ KeepsD w (.slice (some ⟨b1, o1, none⟩) fs.length c1) (.slice (some ⟨b2, o2, none⟩) ts.length c2) (wr.drewN m) W') ∨ (e = .returned (.bool false) ∧ Jx (pre ++ [X]) W')) := fun m => by
              have h := HY.out pre X (wr.drewN m) (HJ.out pre wr (wr.drewN m) none hj (grown_none (bel_drewN wr m)) (fun r h => by cases h)) (by omega)
              rw [hv1, hv2] at h
              exact h
            obtain ⟨k1, hk1⟩ : ∃ x, x = fs[i].1 := ⟨_, rfl⟩
            obtain ⟨k2, hk2⟩ : ∃ x, x = ts[k].1 := ⟨_, rfl⟩
            rw [← hk1] at hX1 hcmp
            rw [← hk2] at hX2 hcmp
            have hX1' := fun j => (show (wr.drewN j).cell? ⟨b1, o1 + i * 2, none⟩ = _ from hX1)
            have hX2' := fun j => (show (wr.drewN j).cell? ⟨b2, o2 + k * 2, none⟩ = _ from hX2)
            have f1 : Op.bytesLess k2.toList k1.toList = true := hcmp
            have f2 := bl_asymm hcmp
            have f3 : (k1.toList == k2.toList) = false := by rw [beq_eq_false_iff_ne]; exact (bl_ne hcmp).symm
            have f4 : (k2.toList == k1.toList) = false := by rw [beq_eq_false_iff_ne]; exact bl_ne hcmp
            have HRD := Lib.hid hyy
            have hdd : ∀ m, DK w (.slice (some ⟨b1, o1, none⟩) fs.length c1) (.slice (some ⟨b2, o2, none⟩) ts.length c2) (wr.drewN m) := fun m => ⟨hd.1.trans ((bel_drewN wr m).mono hd.1.size), hd.2.1, hd.2.2⟩
            have HM := Lib.hid hm
            have HD := Lib.hid hdd
            have HV3 := Lib.hid hv3
            clear hyy hdd hm hd hj hX hmm hv1 hv2 hv3
            clear hx1 hy1 hr1 hP1
            clear hx2 hy2 hr2 hP2
            clear hk1 hk2 hcmp hl he
            have e1 : ((i : Int) == (fs.length : Int)) = false := by rw [beq_eq_false_iff_ne]; omega
            have e2 : (i : Int) < fs.length := by omega
            have e2' : (0 : Int) ≤ (i : Int) := by omega
            have e3 : ((k : Int) == (ts.length : Int)) = false := by rw [beq_eq_false_iff_ne]; omega
            have e4 : (k : Int) < ts.length := by omega
            have e4' : (0 : Int) ≤ (k : Int) := by omega
            gi_wp2
            refine wpIn_wide.2 ?_
            go_quiet (fail)
            gi_wp2
            refine wpIn_wide.2 ?_
            go_quiet (fail)
            gi_wp2_with (refine yield_at (HRD.out _) ?_; intro fn tmps assign body hRd)
            refine ⟨fun h => (by simp [Fence.wide] at h), hRd.mono ?_⟩
            rintro e W3 (⟨rfl, hJ3, hk3⟩ | ⟨rfl, hJx3⟩)
            · have HJ3 := Lib.hid hJ3
              have HD3 := Lib.hid (hk3 (HD.out _))
              clear hJ3 hk3
              gi_wp2
              go_roundw
              case rel => exact ⟨_, i, k + 1, by go_num, by go_num, by omega, by omega, HD3.out, HJ3.out, by rw [List.map_append, List.append_assoc, ← HM.out, List.map_cons, List.map_nil, HV3.out]; rfl, by rw [List.length_append, List.length_singleton]; omega⟩
              case measure => simp [intOf]; omega
            · have HJX := Lib.hid hJx3
              clear hJx3
              gi_wp2
              refine bodyPost_ret (results_none rfl _ _ _) rfl ?_
              exact ⟨⟨_, rfl⟩, .inr ⟨_, by rw [List.map_append, ← HM.out, List.map_cons, List.map_nil, HV3.out]; exact List.prefix_append_right_inj _ |>.2 ⟨_, rfl⟩, HJX.out⟩⟩
      · skip
        obtain ⟨b1, o1, u1, rfl, hx1, hy1, hr1⟩ := rr_at HF.out hin
        have hbw1 : b1 < w.heap.size := block_lt_of_cell hx1
        have hX1 := (hd.1.cell (p := ⟨b1, o1 + i * 2, none⟩) hbw1).trans hx1
        have hX1' := fun j => (show (wr.drewN j).cell? ⟨b1, o1 + i * 2, none⟩ = _ from hX1)
        have hP1 : PtrTo w (.pointer (some ⟨b1, o1 + i * 2, none⟩)) (some fs[i]) := ⟨b1, o1 + i * 2, u1, rfl, hbw1, hx1, hy1, hr1⟩
        have hB1 := hd.2.1.cell
        have hB2 := hd.2.2.cell
        have hB1' := fun j => (show (wr.drewN j).cell? ⟨w.heap.size + 1, 0, none⟩ = _ from hB1)
        have hB2' := fun j => (show (wr.drewN j).cell? ⟨w.heap.size + 1 + 1, 0, none⟩ = _ from hB2)
        obtain rfl : k = ts.length := by omega
        have hmm : mergeL (fs.drop i) (ts.drop ts.length) = (some fs[i], none) :: mergeL (fs.drop (i + 1)) (ts.drop ts.length) := by rw [List.drop_eq_getElem_cons hin, List.drop_length, mergeL]
        obtain ⟨X, hX⟩ : ∃ X : Pr w, X = ⟨((.pointer (some ⟨b1, o1 + i * 2, none⟩), .pointer none), (some fs[i], none)), hP1, rfl, .inl (by simp), fun r h => by cases h⟩ := ⟨_, rfl⟩
        have hv1 : X.1.1.1 = .pointer (some ⟨b1, o1 + i * 2, none⟩) := by rw [hX]
        have hv2 : X.1.1.2 = .pointer none := by rw [hX]
        have hv3 : X.1.2 = (some fs[i], none) := by rw [hX]
        rw [hmm] at hm
        have hyy : ∀ m, YieldAt Fence.wide (n - 1) Try.prog l #[.pointer (some ⟨b1, o1 + i * 2, none⟩), .pointer none] (wr.drewN m) (fun e W' => (e = .returned (.bool true) ∧ J (pre ++ [X]) W' ∧ KeepsD w (.slice (some ⟨b1, o1, none⟩) fs.length c1) (.slice A2 ts.length c2) (wr.drewN m) W') ∨ (e = .returned (.bool false) ∧ Jx (pre ++ [X]) W')) := fun m => by
          have h := HY.out pre X (wr.drewN m) (HJ.out pre wr (wr.drewN m) none hj (grown_none (bel_drewN wr m)) (fun r h => by cases h)) (by omega)
          rw [hv1, hv2] at h
          exact h
        have HRD := Lib.hid hyy
        have hdd : ∀ m, DK w (.slice (some ⟨b1, o1, none⟩) fs.length c1) (.slice A2 ts.length c2) (wr.drewN m) := fun m => ⟨hd.1.trans ((bel_drewN wr m).mono hd.1.size), hd.2.1, hd.2.2⟩
        have HM := Lib.hid hm
        have HD := Lib.hid hdd
        have HV3 := Lib.hid hv3
        clear hyy hdd hm hd hj hX hmm hv1 hv2 hv3
        clear hx1 hy1 hr1 hP1
        have e1 : ((i : Int) == (fs.length : Int)) = false := by rw [beq_eq_false_iff_ne]; omega
        have e2 : (i : Int) < fs.length := by omega
        have e2' : (0 : Int) ≤ (i : Int) := by omega
        gi_wp2
        refine wpIn_wide.2 ?_
        go_quiet (fail)
        gi_wp2
        refine wpIn_wide.2 ?_
        go_quiet (fail)
        gi_wp2_with (refine yield_at (HRD.out _) ?_; intro fn tmps assign body hRd)
        refine ⟨fun h => (by simp [Fence.wide] at h), hRd.mono ?_⟩
        rintro e W3 (⟨rfl, hJ3, hk3⟩ | ⟨rfl, hJx3⟩)
        · have HJ3 := Lib.hid hJ3
          have HD3 := Lib.hid (hk3 (HD.out _))
          clear hJ3 hk3
          gi_wp2
          go_roundw
          case rel => exact ⟨_, i + 1, ts.length, by go_num, by go_num, by omega, by omega, HD3.out, HJ3.out, by rw [List.map_append, List.append_assoc, ← HM.out, List.map_cons, List.map_nil, HV3.out]; rfl, by rw [List.length_append, List.length_singleton]; omega⟩
          case measure => simp [intOf]; omega
        · have HJX := Lib.hid hJx3
          clear hJx3
          gi_wp2
          refine bodyPost_ret (results_none rfl _ _ _) rfl ?_
          exact ⟨⟨_, rfl⟩, .inr ⟨_, by rw [List.map_append, ← HM.out, List.map_cons, List.map_nil, HV3.out]; exact List.prefix_append_right_inj _ |>.2 ⟨_, rfl⟩, HJX.out⟩⟩
    · by_cases hkn : k < ts.length
      · skip
        obtain ⟨b2, o2, u2, rfl, hx2, hy2, hr2⟩ := rr_at HT.out hkn
        have hbw2 : b2 < w.heap.size := block_lt_of_cell hx2
        have hX2 := (hd.1.cell (p := ⟨b2, o2 + k * 2, none⟩) hbw2).trans hx2
        have hX2' := fun j => (show (wr.drewN j).cell? ⟨b2, o2 + k * 2, none⟩ = _ from hX2)
        have hP2 : PtrTo w (.pointer (some ⟨b2, o2 + k * 2, none⟩)) (some ts[k]) := ⟨b2, o2 + k * 2, u2, rfl, hbw2, hx2, hy2, hr2⟩
        have hB1 := hd.2.1.cell
        have hB2 := hd.2.2.cell
        have hB1' := fun j => (show (wr.drewN j).cell? ⟨w.heap.size + 1, 0, none⟩ = _ from hB1)
        have hB2' := fun j => (show (wr.drewN j).cell? ⟨w.heap.size + 1 + 1, 0, none⟩ = _ from hB2)
        obtain rfl : i = fs.length := by omega
        have hmm : mergeL (fs.drop fs.length) (ts.drop k) = (none, some ts[k]) :: mergeL (fs.drop fs.length) (ts.drop (k + 1)) := by rw [List.drop_eq_getElem_cons hkn, List.drop_length, mergeL, mergeL, List.map_cons]
        obtain ⟨X, hX⟩ : ∃ X : Pr w, X = ⟨((.pointer none, .pointer (some ⟨b2, o2 + k * 2, none⟩)), (none, some ts[k])), rfl, hP2, .inr (by simp), fun r h => by injection h with h; rw [← h]; exact HVL.out _ (List.getElem_mem hkn)⟩ := ⟨_, rfl⟩
        have hv1 : X.1.1.1 = .pointer none := by rw [hX]
        have hv2 : X.1.1.2 = .pointer (some ⟨b2, o2 + k * 2, none⟩) := by rw [hX]
        have hv3 : X.1.2 = (none, some ts[k]) := by rw [hX]
        rw [hmm] at hm
        have hyy : ∀ m, YieldAt Fence.wide (n - 1) Try.prog l #[.pointer none, .pointer (some ⟨b2, o2 + k * 2, none⟩)] (wr.drewN m) (fun e W' => (e = .returned (.bool true) ∧ J (pre ++ [X]) W' ∧ KeepsD w (.slice A1 fs.length c1) (.slice (some ⟨b2, o2, none⟩) ts.length c2) (wr.drewN m) W') ∨ (e = .returned (.bool false) ∧ Jx (pre ++ [X]) W')) := fun m => by
          have h := HY.out pre X (wr.drewN m) (HJ.out pre wr (wr.drewN m) none hj (grown_none (bel_drewN wr m)) (fun r h => by cases h)) (by omega)
          rw [hv1, hv2] at h
          exact h
        have HRD := Lib.hid hyy
        have hdd : ∀ m, DK w (.slice A1 fs.length c1) (.slice (some ⟨b2, o2, none⟩) ts.length c2) (wr.drewN m) := fun m => ⟨hd.1.trans ((bel_drewN wr m).mono hd.1.size), hd.2.1, hd.2.2⟩
        have HM := Lib.hid hm
        have HD := Lib.hid hdd
        have HV3 := Lib.hid hv3
        clear hyy hdd hm hd hj hX hmm hv1 hv2 hv3
        clear hx2 hy2 hr2 hP2
        have e3 : ((k : Int) == (ts.length : Int)) = false := by rw [beq_eq_false_iff_ne]; omega
        have e4 : (k : Int) < ts.length := by omega
        have e4' : (0 : Int) ≤ (k : Int) := by omega
        gi_wp2
        refine wpIn_wide.2 ?_
        go_quiet (fail)
        gi_wp2
        refine wpIn_wide.2 ?_
        go_quiet (fail)
        gi_wp2_with (refine yield_at (HRD.out _) ?_; intro fn tmps assign body hRd)
        refine ⟨fun h => (by simp [Fence.wide] at h), hRd.mono ?_⟩
        rintro e W3 (⟨rfl, hJ3, hk3⟩ | ⟨rfl, hJx3⟩)
        · have HJ3 := Lib.hid hJ3
          have HD3 := Lib.hid (hk3 (HD.out _))
          clear hJ3 hk3
          gi_wp2
          go_roundw
          case rel => exact ⟨_, fs.length, k + 1, by go_num, by go_num, by omega, by omega, HD3.out, HJ3.out, by rw [List.map_append, List.append_assoc, ← HM.out, List.map_cons, List.map_nil, HV3.out]; rfl, by rw [List.length_append, List.length_singleton]; omega⟩
          case measure => simp [intOf]; omega
        · have HJX := Lib.hid hJx3
          clear hJx3
          gi_wp2
          refine bodyPost_ret (results_none rfl _ _ _) rfl ?_
          exact ⟨⟨_, rfl⟩, .inr ⟨_, by rw [List.map_append, ← HM.out, List.map_cons, List.map_nil, HV3.out]; exact List.prefix_append_right_inj _ |>.2 ⟨_, rfl⟩, HJX.out⟩⟩
      · obtain rfl : i = fs.length := by omega
        obtain rfl : k = ts.length := by omega
        have hB1 := hd.2.1.cell
        have hB2 := hd.2.2.cell
        have HM := Lib.hid hm
        have HJ := Lib.hid hj
        clear hm hj hd
        gi_wp2
        go_end0
        exact ⟨⟨_, rfl⟩, .inl ⟨_, by have := HM.out; rw [List.drop_length, List.drop_length, merge_nil, List.map_nil, List.append_nil] at this; exact this, HJ.out⟩⟩
end Go.Proofs.Ytomkbgghljcbfaa
