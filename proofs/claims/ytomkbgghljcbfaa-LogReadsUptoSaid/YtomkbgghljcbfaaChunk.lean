/-
  The contracts of slices.Chunk of bytes, by forty-nine.
-/
import Derived.Test.YtomkbgghljcbfaaGRf
import Derived.Test.YtomkbgghljcbfaaPairs
import Derived.Test.YtomkbgghljcbfaaLMath
import Derived.Deep.QuietTactic
import Derived.BigQuiet
namespace Go.Proofs.Ytomkbgghljcbfaa
open Go.RowKit Go.Rst Go.Crc Go.Shelf
attribute [local go_sem] Oper.semAt_some
theorem rb_cap {w : World} {A : Option Addr} {n c c' : Nat} {l : List UInt8} (h : RB w (.slice A n c) l) (h1 : n ≤ c') (h2 : c' ≤ maxLen) : RB w (.slice A n c') l := by
  obtain ⟨A', c0, he, h3, h4, h5⟩ := h
  injection he with e1 e2 _
  subst e1
  subst e2
  exact ⟨A, c', rfl, h1, h2, h5⟩
/-- A piece of bytes, whatever else lies there. -/
abbrev Ck (bv : Value) (bl : List UInt8) : Type := { x : Value × List UInt8 // (∀ X, RB X bv bl → RB X x.1 x.2) ∧ x.2.length ≤ 49 }
def DC (bv : Value) (bl : List UInt8) (B : Nat) (X : World) : Prop := RB X bv bl ∧ Boxed X B 23 bv ∧ Boxed X (B + 1) 3 (.int .i64 49)
def KeepsC (bv : Value) (bl : List UInt8) (B : Nat) (X Y : World) : Prop := DC bv bl B X → DC bv bl B Y
def chunkL (bl : List UInt8) : List (List UInt8) := (List.range (ofL bl)).map (pcL bl)

set_option maxHeartbeats 1000000 in
theorem chunk_in (n : Nat) (bv : Value) (w : World) (h1 : bv.oneCell' = true) :
    CallsIn Fence.wide n Try.prog 46 #[bv, .int .i64 49] w fun e w' => e = .returned (.func (.func 66) #[] #[.pointer (some ⟨w.heap.size, 0, none⟩), .pointer (some ⟨w.heap.size + 1, 0, none⟩)]) ∧ w' = (w.alloc (.cells #[bv] 23)).alloc (.cells #[.int .i64 49] 3) := by
  refine callsIn_of_wp Try.func46 rfl trivial ?_ rfl
  simp only [Try.ntmps46, List.size_toArray, List.length_cons, List.length_nil, Nat.reduceAdd, Nat.reduceSub, Array.replicate_succ, Array.replicate_zero, List.push_toArray, List.append_toArray, List.nil_append, List.cons_append]
  gi_wp2
  go_ret
  exact ⟨rfl, rfl⟩

set_option maxRecDepth 100000 in
set_option maxHeartbeats 8000000 in
theorem chunk_stops (n : Nat) (b off c L B : Nat) (bl : List UInt8) (W0 : World) (hL : L = bl.length) (hD : DC (.slice (some ⟨b, off, none⟩) L c) bl B W0) (hl : L ≤ 1000000000) :
    SeqStopsK Fence.wide n Try.prog 66 #[.pointer (some ⟨B, 0, none⟩), .pointer (some ⟨B + 1, 0, none⟩)] (fun x : Ck (.slice (some ⟨b, off, none⟩) L c) bl => #[x.1.1]) (KeepsC (.slice (some ⟨b, off, none⟩) L c) bl B)
      (fun ys => ys.map (·.1.2) = chunkL bl) (fun pre => pre.map (·.1.2) <+: chunkL bl) (ofL bl + 1) W0 :=
  fun l J Jx W hW hJ hJx hY h0 => by
  have hDW : DC (.slice (some ⟨b, off, none⟩) L c) bl B W := ⟨hD.1.below hW, (hW.block _ hD.2.1.lt).trans hD.2.1, (hW.block _ hD.2.2.lt).trans hD.2.2⟩
  have hc63 : L ≤ c ∧ (c : Int) ≤ 9223372036854775807 := by
    obtain ⟨A', c', he, h1, h2, _⟩ := hD.1
    injection he with _ _ e3
    unfold maxLen at h2
    omega
  refine callsIn_of_wp Try.func66 rfl trivial ?_ rfl
  simp only [Try.ntmps66, List.size_toArray, List.length_cons, List.length_nil, Nat.reduceAdd, Nat.reduceSub, Array.replicate_succ, Array.replicate_zero, List.push_toArray, List.append_toArray, List.nil_append, List.cons_append]
  have HY := Lib.hid hY
  have HJ := Lib.hid hJ
  have HDW := Lib.hid hDW
  obtain ⟨of, hof⟩ : ∃ of, of = ofL bl := ⟨_, rfl⟩
  have hofL : of = (L + 48) / 49 := by rw [hof, hL]; rfl
  rw [← hof] at HY
  have HOF := Lib.hid hof
  have HL := Lib.hid hL
  obtain ⟨hc1, hc2⟩ := hc63
  clear hJ hJx hY hD hDW hof hL
  gi_wp2
  gi_loopw [4] (fun iv wr => ∃ (pre : List (Ck (.slice (some ⟨b, off, none⟩) L c) bl)) (k : Nat), iv = .int .i64 ((49 * k : Nat) : Int) ∧ k ≤ of ∧ DC (.slice (some ⟨b, off, none⟩) L c) bl B wr ∧ J pre wr ∧ pre.map (·.1.2) = (List.range k).map (pcL bl))
    (fun iv _ => of * 49 - (intOf iv).toNat)
  case atStart => exact ⟨[], 0, rfl, Nat.zero_le _, HDW.out, h0, rfl⟩
  case round =>
    obtain ⟨pre, k, rfl, hk, hd, hj, hm⟩ := hrel
    have hB1 := hd.2.1.cell
    have hB2 := hd.2.2.cell
    by_cases hlt : k < of
    · have hpl : pre.length = k := by have h := congrArg List.length hm; rw [List.length_map, List.length_map, List.length_range] at h; exact h
      obtain ⟨q, hq⟩ : ∃ q, q = 49 * k := ⟨_, rfl⟩
      rw [← hq]
      have hqL : q < L := by omega
      obtain ⟨E, hE⟩ : ∃ E, E = min 49 (L - q) := ⟨_, rfl⟩
      have hE1 : 0 < E := by omega
      have hB1' := fun j => (show (wr.drewN j).cell? ⟨B, 0, none⟩ = _ from hB1)
      have hB2' := fun j => (show (wr.drewN j).cell? ⟨B + 1, 0, none⟩ = _ from hB2)
      have hpc : (pcL bl k).length = E := by rw [pcL_length, ← HL.out, ← hq, hE]
      have hx1 : ∀ Y, RB Y (.slice (some ⟨b, off, none⟩) L c) bl → RB Y (.slice (some ⟨b, off + q, none⟩) E E) (pcL bl k) := fun Y hY => by
        rw [HL.out] at hY
        have := hY.cut (q := q) (n := E) (by rw [← HL.out]; omega)
        have hp : (bl.drop q).take E = pcL bl k := by
          unfold pcL
          rw [← hq, hE, ← List.take_take, List.take_of_length_le (l := bl.drop q) (by rw [List.length_drop, ← HL.out]; omega)]
        rw [hp] at this
        exact rb_cap this (Nat.le_refl _) (by unfold maxLen; omega)
      have hx2 : (pcL bl k).length ≤ 49 := by rw [hpc]; omega
      let X0 : Ck (.slice (some ⟨b, off, none⟩) L c) bl := ⟨(.slice (some ⟨b, off + q, none⟩) E E, pcL bl k), hx1, hx2⟩
      obtain ⟨X, hX⟩ : ∃ X : Ck (.slice (some ⟨b, off, none⟩) L c) bl, X = X0 := ⟨X0, rfl⟩
      have hv1 : X.1.1 = .slice (some ⟨b, off + q, none⟩) E E := by rw [hX]
      have hv2 : X.1.2 = pcL bl k := by rw [hX]
      have hyy : ∀ m, YieldAt Fence.wide (n - 1) Try.prog l #[.slice (some ⟨b, off + q, none⟩) E E] (wr.drewN m) (fun e W' => (e = .returned (.bool true) ∧ J (pre ++ [X]) W' ∧ KeepsC (.slice (some ⟨b, off, none⟩) L c) bl B (wr.drewN m) W') ∨ (e = .returned (.bool false) ∧ Jx (pre ++ [X]) W')) := fun m => by
        have h := HY.out pre X (wr.drewN m) (HJ.out pre wr (wr.drewN m) none hj (grown_none (bel_drewN wr m)) (fun r h => by cases h)) (by omega)
        rw [hv1] at h
        exact h
      have hdd : ∀ m, DC (.slice (some ⟨b, off, none⟩) L c) bl B (wr.drewN m) := fun m => ⟨hd.1, hd.2.1, hd.2.2⟩
      have HRD := Lib.hid hyy
      have HD := Lib.hid hdd
      have HM := Lib.hid hm
      have HV2 := Lib.hid hv2
      have HQ := Lib.hid hq
      have HE := Lib.hid hE
      have hmin : min 49 (L - q) = E := hE.symm
      have e1 : (q : Int) < L := by omega
      have e2 : (0 : Int) ≤ (q : Int) := by omega
      have e3 : ¬ c = q := by omega
      have e4 : q + E ≤ c := by omega
      have e5 : q ≤ c := by omega
      have e6 : q + E ≤ L := by omega
      clear hyy hdd hd hm hj hX hv1 hv2 hpc hq hE hmin hx1 X0 hx2
      gi_wp2
      refine wpIn_wide.2 ?_
      rcases Nat.lt_or_ge (L - q) 49 with hlt49 | hge49
      · have hEE : E = L - q := by have := HE.out; omega
        go_quiet (fail)
        subst hEE
        gi_wp2_with (refine yield_at (HRD.out _) ?_; intro fn tmps assign body hRd)
        refine ⟨fun h => (by simp [Fence.wide] at h), hRd.mono ?_⟩
        rintro e W3 (⟨rfl, hJ3, hk3⟩ | ⟨rfl, hJx3⟩)
        · have HJ3 := Lib.hid hJ3
          have HD3 := Lib.hid (hk3 (HD.out _))
          have hb2 := (hk3 (HD.out _)).2.2.cell
          clear hJ3 hk3
          gi_wp2
          go_roundw
          case rel => exact ⟨_, k + 1, by have := HQ.out; rw [show 49 * (k + 1) = q + 49 by omega]; go_num, by omega, HD3.out, HJ3.out, by rw [List.map_append, HM.out, List.map_cons, List.map_nil, HV2.out, List.range_succ, List.map_append]; rfl⟩
          case measure => have := HQ.out; simp [intOf]; omega
        · have HJX := Lib.hid hJx3
          clear hJx3
          gi_wp2
          refine bodyPost_ret (results_none rfl _ _ _) rfl ?_
          exact ⟨⟨_, rfl⟩, .inr ⟨_, by
            rw [List.map_append, HM.out, List.map_cons, List.map_nil, HV2.out]
            refine ⟨((List.range (of - (k + 1))).map fun j => pcL bl (k + 1 + j)), ?_⟩
            unfold chunkL
            rw [← HOF.out]
            conv => rhs; rw [show of = (k + 1) + (of - (k + 1)) by omega, List.range_add, List.map_append, List.range_succ, List.map_append, List.map_map]
            rfl, HJX.out⟩⟩
      · have hEE : E = 49 := by have := HE.out; omega
        have hmm : min 49 (L - q) = 49 := by omega
        go_quiet (fail)
        subst hEE
        gi_wp2_with (refine yield_at (HRD.out _) ?_; intro fn tmps assign body hRd)
        refine ⟨fun h => (by simp [Fence.wide] at h), hRd.mono ?_⟩
        rintro e W3 (⟨rfl, hJ3, hk3⟩ | ⟨rfl, hJx3⟩)
        · have HJ3 := Lib.hid hJ3
          have HD3 := Lib.hid (hk3 (HD.out _))
          have hb2 := (hk3 (HD.out _)).2.2.cell
          clear hJ3 hk3
          gi_wp2
          go_roundw
          case rel => exact ⟨_, k + 1, by have := HQ.out; rw [show 49 * (k + 1) = q + 49 by omega]; go_num, by omega, HD3.out, HJ3.out, by rw [List.map_append, HM.out, List.map_cons, List.map_nil, HV2.out, List.range_succ, List.map_append]; rfl⟩
          case measure => have := HQ.out; simp [intOf]; omega
        · have HJX := Lib.hid hJx3
          clear hJx3
          gi_wp2
          refine bodyPost_ret (results_none rfl _ _ _) rfl ?_
          exact ⟨⟨_, rfl⟩, .inr ⟨_, by
            rw [List.map_append, HM.out, List.map_cons, List.map_nil, HV2.out]
            refine ⟨((List.range (of - (k + 1))).map fun j => pcL bl (k + 1 + j)), ?_⟩
            unfold chunkL
            rw [← HOF.out]
            conv => rhs; rw [show of = (k + 1) + (of - (k + 1)) by omega, List.range_add, List.map_append, List.range_succ, List.map_append, List.map_map]
            rfl, HJX.out⟩⟩
    · obtain rfl : k = of := by omega
      have HM := Lib.hid hm
      have HJs := Lib.hid hj
      have e1 : ¬ ((49 * k : Nat) : Int) < (L : Int) := by omega
      clear hm hj hd
      gi_wp2
      go_end0
      exact ⟨⟨_, rfl⟩, .inl ⟨_, by have h := HM.out; rw [HOF.out] at h; exact h, HJs.out⟩⟩
end Go.Proofs.Ytomkbgghljcbfaa
