/-
  The contracts of the program's closures of and above, and of slices.IndexFunc with them (layer state).
-/
import Derived.Test.YtcmkmdghekkkhaaDoorTsK
import Derived.Handy
set_option linter.unusedVariables false
namespace Go.Ts
/-- The first place of which something holds; -1: there is none. -/
def IdxR (p : Sub → Bool) (xs : List Sub) (r : Int) : Prop := (∃ k : Nat, ∃ h : k < xs.length, r = k ∧ p xs[k] = true ∧ ∀ j (hj : j < xs.length), j < k → p xs[j] = false) ∨ (r = -1 ∧ ∀ j (hj : j < xs.length), p xs[j] = false)
end Go.Ts
namespace Go.Proofs.YtcmkmdghekkkhaaDoor
open Go.RowKit Go.Rst Go.Tp Go.Ts
/-- A closure, and the number that it holds. -/
def GivesCl (w : World) (f : Nat → Value) (id : Int) (e : Ending) (w' : World) : Prop := ∃ b, e = .returned (f b) ∧ w'.cell? ⟨b, 0, none⟩ = some (.int .i64 id) ∧ b < w'.heap.size ∧ Below w.heap.size w w'
def GivesIx (w : World) (p : Sub → Bool) (xs : List Sub) (e : Ending) (w' : World) : Prop := ∃ r : Int, e = .returned (.int .i64 r) ∧ IdxR p xs r ∧ Below w.heap.size w w'
abbrev ofV (b : Nat) : Value := .func (.func 57) #[] #[.pointer (some ⟨b, 0, none⟩)]
set_option maxRecDepth 100000 in
theorem of_any (id : Int) (w : World) : Calls Tryd.prog 35 #[.int .i64 id] w (GivesCl w ofV id) := by
  have hb := (Below.refl w.heap.size w).alloc (Nat.le_refl _) (Obj.cells #[.int .i64 id] 3)
  go_enter Tryd.func35, Tryd.ntmps35
  go_wp2
  go_ret
  exact ⟨w.heap.size, rfl, by simp, by simp, hb⟩
set_option maxRecDepth 100000 in
theorem of1_any (x : Sub) (av qv : Value) (b : Nat) (id : Int) (w : World) (hb : w.cell? ⟨b, 0, none⟩ = some (.int .i64 id)) :
    Calls Tryd.prog 57 #[.agg (subC x av qv).toArray, .pointer (some ⟨b, 0, none⟩)] w fun e w' => e = .returned (.bool (x.id == id)) ∧ Below w.heap.size w w' := by
  have hbw : b < w.heap.size := block_lt_of_cell hb
  have hbl := (Below.refl w.heap.size w).alloc (Nat.le_refl _) (Obj.cells (subC x av qv).toArray 35)
  have hc := (hbl.cell (p := ⟨b, 0, none⟩) hbw).trans hb
  obtain ⟨xid, name, topic, want, lease, most, floor, acks, queue, note⟩ := x
  simp only [subC] at hc hbl ⊢
  have HB := Lib.hid hbl
  clear hbl
  go_enter Tryd.func57, Tryd.ntmps57
  go_wp2
  go_ret
  exact ⟨by simp, HB.out⟩
set_option maxRecDepth 100000 in
set_option maxHeartbeats 1000000 in
theorem idx_of (v : Value) (xs : List Sub) (b : Nat) (id : Int) (w : World) (hv : RS w v xs) (hb : w.cell? ⟨b, 0, none⟩ = some (.int .i64 id)) :
    Calls Tryd.prog 31 #[v, ofV b] w (GivesIx w (fun x => x.id == id) xs) := by
  have HV := Lib.hid hv
  have HC := Lib.hid hb
  have HBW := Lib.hid (block_lt_of_cell hb)
  obtain ⟨A, c, rfl, hc1, hc2⟩ := hv.shape
  unfold maxLen at hc2
  clear hv hb
  go_enter Tryd.func31, Tryd.ntmps31
  go_wp2
  go_loopw [8] (fun i wr => ∃ k : Nat, k ≤ xs.length ∧ i = .int .i64 k ∧ (∀ j (hj : j < xs.length), j < k → (fun x : Sub => x.id == id) xs[j] = false) ∧ Below w.heap.size w wr) (fun i _ => xs.length - (intOf i).toNat)
  case atStart => exact ⟨0, Nat.zero_le _, rfl, fun j _ h => by omega, Below.refl _ _⟩
  case round =>
    obtain ⟨k, hk, rfl, hall, hbel⟩ := hrel
    have HALL := Lib.hid hall
    have HBL := Lib.hid hbel
    clear hall
    by_cases hlt : k < xs.length
    · obtain ⟨g, off, av, qv, rfl, hg, hrg0, hra, hrq⟩ := rs_at HV.out hlt
      have hrg := range_below hrg0 hg hbel
      have hcl := (hbel.cell (p := ⟨b, 0, none⟩) HBW.out).trans HC.out
      have HCL := Lib.hid (of1_any xs[k] av qv b id wr hcl)
      have HNX := Lib.hid (fun h : (fun x : Sub => x.id == id) xs[k] = false => (fun j hj hjk => by
        by_cases e : j = k
        · subst e; exact h
        · exact HALL.out j hj (by omega) : ∀ j (hj : j < xs.length), j < k + 1 → (fun x : Sub => x.id == id) xs[j] = false))
      have HST := Lib.hid (fun h : (fun x : Sub => x.id == id) xs[k] = true => (.inl ⟨k, hlt, rfl, h, HALL.out⟩ : IdxR (fun x => x.id == id) xs k))
      have q1 : (k : Int) < (xs.length : Int) := by omega
      have HRG := Lib.hid hrg
      obtain ⟨bb, hbb⟩ : ∃ bb : Bool, bb = (xs[k].id == id) := ⟨_, rfl⟩
      rw [← hbb] at HCL
      have HBB := Lib.hid hbb
      obtain ⟨C, hC⟩ : ∃ C, C = subC xs[k] av qv := ⟨_, rfl⟩
      rw [← hC] at HRG HCL
      have HLEN := Lib.hid (show C.length = 10 by rw [hC]; rfl)
      have HINF := Lib.hid (show (Tryd.prog.info? 35).map (·.size) = some C.length by rw [hC]; exact size35)
      clear hrg0 hrg hbel hcl hra hrq hbb hC
      go_wp2_with (first
        | (refine wpList_load_midG (by rfl) 35 (.tmp 14) rfl g (off + k * 10) rfl _ _ HRG.out Tryd.underlying35 rfl HINF.out ?_)
        | (go_at_call 57; refine HCL.out.mono ?_; rintro e w3 ⟨rfl, hb3⟩; have HB3 := Lib.hid (HBL.out.trans (hb3.mono HBL.out.size)); clear hb3))
      · rename_i hq
        go_ret
        exact ⟨_, rfl, HST.out (by rw [← hq]; exact HBB.out.symm), HB3.out⟩
      · rename_i hq
        go_roundw
        case rel => exact ⟨k + 1, by omega, by go_num, HNX.out (by first | (rw [← HBB.out]; exact hq) | (have := HBB.out; simpa [hq] using this.symm)), HB3.out⟩
        case measure => simp [intOf]; omega
    · have q1 : ¬ (k : Int) < (xs.length : Int) := by omega
      clear hbel
      go_wp2
      go_ret
      exact ⟨_, rfl, .inr ⟨rfl, fun j hj => HALL.out j hj (by omega)⟩, HBL.out⟩
abbrev aboveV (b : Nat) : Value := .func (.func 52) #[] #[.pointer (some ⟨b, 0, none⟩)]
set_option maxRecDepth 100000 in
theorem above_any (id : Int) (w : World) : Calls Tryd.prog 32 #[.int .i64 id] w (GivesCl w aboveV id) := by
  have hb := (Below.refl w.heap.size w).alloc (Nat.le_refl _) (Obj.cells #[.int .i64 id] 3)
  go_enter Tryd.func32, Tryd.ntmps32
  go_wp2
  go_ret
  exact ⟨w.heap.size, rfl, by simp, by simp, hb⟩
set_option maxRecDepth 100000 in
theorem above1_any (x : Sub) (av qv : Value) (b : Nat) (id : Int) (w : World) (hb : w.cell? ⟨b, 0, none⟩ = some (.int .i64 id)) :
    Calls Tryd.prog 52 #[.agg (subC x av qv).toArray, .pointer (some ⟨b, 0, none⟩)] w fun e w' => e = .returned (.bool (decide (id < x.id))) ∧ Below w.heap.size w w' := by
  have hbw : b < w.heap.size := block_lt_of_cell hb
  have hbl := (Below.refl w.heap.size w).alloc (Nat.le_refl _) (Obj.cells (subC x av qv).toArray 35)
  have hc := (hbl.cell (p := ⟨b, 0, none⟩) hbw).trans hb
  obtain ⟨xid, name, topic, want, lease, most, floor, acks, queue, note⟩ := x
  simp only [subC] at hc hbl ⊢
  have HB := Lib.hid hbl
  clear hbl
  go_enter Tryd.func52, Tryd.ntmps52
  go_wp2
  go_ret
  exact ⟨by simp, HB.out⟩
set_option maxRecDepth 100000 in
set_option maxHeartbeats 1000000 in
theorem idx_above (v : Value) (xs : List Sub) (b : Nat) (id : Int) (w : World) (hv : RS w v xs) (hb : w.cell? ⟨b, 0, none⟩ = some (.int .i64 id)) :
    Calls Tryd.prog 31 #[v, aboveV b] w (GivesIx w (fun x => decide (id < x.id)) xs) := by
  have HV := Lib.hid hv
  have HC := Lib.hid hb
  have HBW := Lib.hid (block_lt_of_cell hb)
  obtain ⟨A, c, rfl, hc1, hc2⟩ := hv.shape
  unfold maxLen at hc2
  clear hv hb
  go_enter Tryd.func31, Tryd.ntmps31
  go_wp2
  go_loopw [8] (fun i wr => ∃ k : Nat, k ≤ xs.length ∧ i = .int .i64 k ∧ (∀ j (hj : j < xs.length), j < k → (fun x : Sub => decide (id < x.id)) xs[j] = false) ∧ Below w.heap.size w wr) (fun i _ => xs.length - (intOf i).toNat)
  case atStart => exact ⟨0, Nat.zero_le _, rfl, fun j _ h => by omega, Below.refl _ _⟩
  case round =>
    obtain ⟨k, hk, rfl, hall, hbel⟩ := hrel
    have HALL := Lib.hid hall
    have HBL := Lib.hid hbel
    clear hall
    by_cases hlt : k < xs.length
    · obtain ⟨g, off, av, qv, rfl, hg, hrg0, hra, hrq⟩ := rs_at HV.out hlt
      have hrg := range_below hrg0 hg hbel
      have hcl := (hbel.cell (p := ⟨b, 0, none⟩) HBW.out).trans HC.out
      have HCL := Lib.hid (above1_any xs[k] av qv b id wr hcl)
      have HNX := Lib.hid (fun h : (fun x : Sub => decide (id < x.id)) xs[k] = false => (fun j hj hjk => by
        by_cases e : j = k
        · subst e; exact h
        · exact HALL.out j hj (by omega) : ∀ j (hj : j < xs.length), j < k + 1 → (fun x : Sub => decide (id < x.id)) xs[j] = false))
      have HST := Lib.hid (fun h : (fun x : Sub => decide (id < x.id)) xs[k] = true => (.inl ⟨k, hlt, rfl, h, HALL.out⟩ : IdxR (fun x => decide (id < x.id)) xs k))
      have q1 : (k : Int) < (xs.length : Int) := by omega
      have HRG := Lib.hid hrg
      obtain ⟨bb, hbb⟩ : ∃ bb : Bool, bb = (decide (id < xs[k].id)) := ⟨_, rfl⟩
      rw [← hbb] at HCL
      have HBB := Lib.hid hbb
      obtain ⟨C, hC⟩ : ∃ C, C = subC xs[k] av qv := ⟨_, rfl⟩
      rw [← hC] at HRG HCL
      have HLEN := Lib.hid (show C.length = 10 by rw [hC]; rfl)
      have HINF := Lib.hid (show (Tryd.prog.info? 35).map (·.size) = some C.length by rw [hC]; exact size35)
      clear hrg0 hrg hbel hcl hra hrq hbb hC
      go_wp2_with (first
        | (refine wpList_load_midG (by rfl) 35 (.tmp 14) rfl g (off + k * 10) rfl _ _ HRG.out Tryd.underlying35 rfl HINF.out ?_)
        | (go_at_call 52; refine HCL.out.mono ?_; rintro e w3 ⟨rfl, hb3⟩; have HB3 := Lib.hid (HBL.out.trans (hb3.mono HBL.out.size)); clear hb3))
      · rename_i hq
        go_ret
        exact ⟨_, rfl, HST.out (by rw [← hq]; exact HBB.out.symm), HB3.out⟩
      · rename_i hq
        go_roundw
        case rel => exact ⟨k + 1, by omega, by go_num, HNX.out (by first | (rw [← HBB.out]; exact hq) | (have := HBB.out; simpa [hq] using this.symm)), HB3.out⟩
        case measure => simp [intOf]; omega
    · have q1 : ¬ (k : Int) < (xs.length : Int) := by omega
      clear hbel
      go_wp2
      go_ret
      exact ⟨_, rfl, .inr ⟨rfl, fun j hj => HALL.out j hj (by omega)⟩, HBL.out⟩
end Go.Proofs.YtcmkmdghekkkhaaDoor
