/-
  The contracts of the program's closures of and above, and of slices.IndexFunc with them (layer state).; The contract of the program's Find (layer state).; The contract of the program's Without (layer state).; The contracts of slices.Clone of numbers and of messages, and of the program's own, by what they own (layer state).
-/
import Derived.Handy
import Derived.Test.YtodckdkbheapfaaGreatKOI
set_option linter.unusedVariables false
set_option linter.unusedVariables false
namespace Go.Ts
def IdxR (p : Sub → Bool) (xs : List Sub) (r : Int) : Prop := (∃ k : Nat, ∃ h : k < xs.length, r = k ∧ p xs[k] = true ∧ ∀ j (hj : j < xs.length), j < k → p xs[j] = false) ∨ (r = -1 ∧ ∀ j (hj : j < xs.length), p xs[j] = false)
end Go.Ts
namespace Go.Proofs.YtodckdkbheapfaaGreat
open Go.RowKit Go.Rst Go.Tp Go.Ts
def GivesCl (w : World) (f : Nat → Value) (id : Int) (e : Ending) (w' : World) : Prop := ∃ b, e = .returned (f b) ∧ w'.cell? ⟨b, 0, none⟩ = some (.int .i64 id) ∧ b < w'.heap.size ∧ Below w.heap.size w w'
def GivesIx (w : World) (p : Sub → Bool) (xs : List Sub) (e : Ending) (w' : World) : Prop := ∃ r : Int, e = .returned (.int .i64 r) ∧ IdxR p xs r ∧ Below w.heap.size w w'
abbrev ofV (b : Nat) : Value := .func (.func 134) #[] #[.pointer (some ⟨b, 0, none⟩)]
set_option maxRecDepth 100000 in
theorem of_any (id : Int) (w : World) : Calls Tryz.prog 104 #[.int .i64 id] w (GivesCl w ofV id) := by
  have hb := (Below.refl w.heap.size w).alloc (Nat.le_refl _) (Obj.cells #[.int .i64 id] 3)
  go_enter Tryz.func104, Tryz.ntmps104
  go_wp2
  go_ret
  exact ⟨w.heap.size, rfl, by simp, by simp, hb⟩
set_option maxRecDepth 100000 in
theorem of1_any (x : Sub) (av qv : Value) (b : Nat) (id : Int) (w : World) (hb : w.cell? ⟨b, 0, none⟩ = some (.int .i64 id)) :
    Calls Tryz.prog 134 #[.agg (subC x av qv).toArray, .pointer (some ⟨b, 0, none⟩)] w fun e w' => e = .returned (.bool (x.id == id)) ∧ Below w.heap.size w w' := by
  have hbw : b < w.heap.size := block_lt_of_cell hb
  have hbl := (Below.refl w.heap.size w).alloc (Nat.le_refl _) (Obj.cells (subC x av qv).toArray 30)
  have hc := (hbl.cell (p := ⟨b, 0, none⟩) hbw).trans hb
  obtain ⟨xid, name, topic, want, lease, most, floor, acks, queue, note⟩ := x
  simp only [subC] at hc hbl ⊢
  have HB := Lib.hid hbl
  clear hbl
  go_enter Tryz.func134, Tryz.ntmps134
  go_wp2
  go_ret
  exact ⟨by simp, HB.out⟩
set_option maxRecDepth 100000 in
set_option maxHeartbeats 1000000 in
theorem idx_of (v : Value) (xs : List Sub) (b : Nat) (id : Int) (w : World) (hv : RS w v xs) (hb : w.cell? ⟨b, 0, none⟩ = some (.int .i64 id)) :
    Calls Tryz.prog 100 #[v, ofV b] w (GivesIx w (fun x => x.id == id) xs) := by
  have HV := Lib.hid hv
  have HC := Lib.hid hb
  have HBW := Lib.hid (block_lt_of_cell hb)
  obtain ⟨A, c, rfl, hc1, hc2⟩ := hv.shape
  unfold maxLen at hc2
  clear hv hb
  go_enter Tryz.func100, Tryz.ntmps100
  go_wp2
  go_loopw [8] (fun i wr => ∃ k : Nat, k ≤ xs.length ∧ i = .int .i64 k ∧ (∀ j (hj : j < xs.length), j < k → (fun x : Sub => x.id == id) xs[j] = false) ∧ Below w.heap.size w wr) (fun i _ => xs.length - (intOf i).toNat)
  case atStart => exact ⟨0, Nat.zero_le _, rfl, fun j _ h => by omega, Below.refl _ _⟩
  case round =>
    obtain ⟨k, hk, rfl, hall, hbel⟩ := hrel
    have HALL := Lib.hid hall
    have HBL := Lib.hid hbel
    clear hall
    by_cases hlt : k < xs.length
    · obtain ⟨g, off, av, qv, rfl, hg, hrg0, hra, hrq⟩ := rs_at HV.out hlt
      have hrg := range_below hrg0 hg hbel
      have hcl := (hbel.cell (p := ⟨b, 0, none⟩) HBW.out).trans HC.out
      have HCL := Lib.hid (of1_any xs[k] av qv b id wr hcl)
      have HNX := Lib.hid (fun h : (fun x : Sub => x.id == id) xs[k] = false => (fun j hj hjk => by
        by_cases e : j = k
        · subst e; exact h
        · exact HALL.out j hj (by omega) : ∀ j (hj : j < xs.length), j < k + 1 → (fun x : Sub => x.id == id) xs[j] = false))
      have HST := Lib.hid (fun h : (fun x : Sub => x.id == id) xs[k] = true => (.inl ⟨k, hlt, rfl, h, HALL.out⟩ : IdxR (fun x => x.id == id) xs k))
      have q1 : (k : Int) < (xs.length : Int) := by omega
      have HRG := Lib.hid hrg
      obtain ⟨bb, hbb⟩ : ∃ bb : Bool, bb = (xs[k].id == id) := ⟨_, rfl⟩
      rw [← hbb] at HCL
      have HBB := Lib.hid hbb
      obtain ⟨C, hC⟩ : ∃ C, C = subC xs[k] av qv := ⟨_, rfl⟩
      rw [← hC] at HRG HCL
      have HLEN := Lib.hid (show C.length = 10 by rw [hC]; rfl)
      have HINF := Lib.hid (show (Tryz.prog.info? 30).map (·.size) = some C.length by rw [hC]; exact size35)
      clear hrg0 hrg hbel hcl hra hrq hbb hC
      go_wp2_with (first
        | (refine wpList_load_midG (by rfl) 30 (.tmp 14) rfl g (off + k * 10) rfl _ _ HRG.out Tryz.underlying30 rfl HINF.out ?_)
        | (go_at_call 134; refine HCL.out.mono ?_; rintro e w3 ⟨rfl, hb3⟩; have HB3 := Lib.hid (HBL.out.trans (hb3.mono HBL.out.size)); clear hb3))
      · rename_i hq
        go_ret
        exact ⟨_, rfl, HST.out (by rw [← hq]; exact HBB.out.symm), HB3.out⟩
      · rename_i hq
        go_roundw
        case rel => exact ⟨k + 1, by omega, by go_num, HNX.out (by first | (rw [← HBB.out]; exact hq) | (have := HBB.out; simpa [hq] using this.symm)), HB3.out⟩
        case measure => simp [intOf]; omega
    · have q1 : ¬ (k : Int) < (xs.length : Int) := by omega
      clear hbel
      go_wp2
      go_ret
      exact ⟨_, rfl, .inr ⟨rfl, fun j hj => HALL.out j hj (by omega)⟩, HBL.out⟩
abbrev aboveV (b : Nat) : Value := .func (.func 131) #[] #[.pointer (some ⟨b, 0, none⟩)]
set_option maxRecDepth 100000 in
theorem above_any (id : Int) (w : World) : Calls Tryz.prog 101 #[.int .i64 id] w (GivesCl w aboveV id) := by
  have hb := (Below.refl w.heap.size w).alloc (Nat.le_refl _) (Obj.cells #[.int .i64 id] 3)
  go_enter Tryz.func101, Tryz.ntmps101
  go_wp2
  go_ret
  exact ⟨w.heap.size, rfl, by simp, by simp, hb⟩
set_option maxRecDepth 100000 in
theorem above1_any (x : Sub) (av qv : Value) (b : Nat) (id : Int) (w : World) (hb : w.cell? ⟨b, 0, none⟩ = some (.int .i64 id)) :
    Calls Tryz.prog 131 #[.agg (subC x av qv).toArray, .pointer (some ⟨b, 0, none⟩)] w fun e w' => e = .returned (.bool (decide (id < x.id))) ∧ Below w.heap.size w w' := by
  have hbw : b < w.heap.size := block_lt_of_cell hb
  have hbl := (Below.refl w.heap.size w).alloc (Nat.le_refl _) (Obj.cells (subC x av qv).toArray 30)
  have hc := (hbl.cell (p := ⟨b, 0, none⟩) hbw).trans hb
  obtain ⟨xid, name, topic, want, lease, most, floor, acks, queue, note⟩ := x
  simp only [subC] at hc hbl ⊢
  have HB := Lib.hid hbl
  clear hbl
  go_enter Tryz.func131, Tryz.ntmps131
  go_wp2
  go_ret
  exact ⟨by simp, HB.out⟩
set_option maxRecDepth 100000 in
set_option maxHeartbeats 1000000 in
theorem idx_above (v : Value) (xs : List Sub) (b : Nat) (id : Int) (w : World) (hv : RS w v xs) (hb : w.cell? ⟨b, 0, none⟩ = some (.int .i64 id)) :
    Calls Tryz.prog 100 #[v, aboveV b] w (GivesIx w (fun x => decide (id < x.id)) xs) := by
  have HV := Lib.hid hv
  have HC := Lib.hid hb
  have HBW := Lib.hid (block_lt_of_cell hb)
  obtain ⟨A, c, rfl, hc1, hc2⟩ := hv.shape
  unfold maxLen at hc2
  clear hv hb
  go_enter Tryz.func100, Tryz.ntmps100
  go_wp2
  go_loopw [8] (fun i wr => ∃ k : Nat, k ≤ xs.length ∧ i = .int .i64 k ∧ (∀ j (hj : j < xs.length), j < k → (fun x : Sub => decide (id < x.id)) xs[j] = false) ∧ Below w.heap.size w wr) (fun i _ => xs.length - (intOf i).toNat)
  case atStart => exact ⟨0, Nat.zero_le _, rfl, fun j _ h => by omega, Below.refl _ _⟩
  case round =>
    obtain ⟨k, hk, rfl, hall, hbel⟩ := hrel
    have HALL := Lib.hid hall
    have HBL := Lib.hid hbel
    clear hall
    by_cases hlt : k < xs.length
    · obtain ⟨g, off, av, qv, rfl, hg, hrg0, hra, hrq⟩ := rs_at HV.out hlt
      have hrg := range_below hrg0 hg hbel
      have hcl := (hbel.cell (p := ⟨b, 0, none⟩) HBW.out).trans HC.out
      have HCL := Lib.hid (above1_any xs[k] av qv b id wr hcl)
      have HNX := Lib.hid (fun h : (fun x : Sub => decide (id < x.id)) xs[k] = false => (fun j hj hjk => by
        by_cases e : j = k
        · subst e; exact h
        · exact HALL.out j hj (by omega) : ∀ j (hj : j < xs.length), j < k + 1 → (fun x : Sub => decide (id < x.id)) xs[j] = false))
      have HST := Lib.hid (fun h : (fun x : Sub => decide (id < x.id)) xs[k] = true => (.inl ⟨k, hlt, rfl, h, HALL.out⟩ : IdxR (fun x => decide (id < x.id)) xs k))
      have q1 : (k : Int) < (xs.length : Int) := by omega
      have HRG := Lib.hid hrg
      obtain ⟨bb, hbb⟩ : ∃ bb : Bool, bb = (decide (id < xs[k].id)) := ⟨_, rfl⟩
      rw [← hbb] at HCL
      have HBB := Lib.hid hbb
      obtain ⟨C, hC⟩ : ∃ C, C = subC xs[k] av qv := ⟨_, rfl⟩
      rw [← hC] at HRG HCL
      have HLEN := Lib.hid (show C.length = 10 by rw [hC]; rfl)
      have HINF := Lib.hid (show (Tryz.prog.info? 30).map (·.size) = some C.length by rw [hC]; exact size35)
      clear hrg0 hrg hbel hcl hra hrq hbb hC
      go_wp2_with (first
        | (refine wpList_load_midG (by rfl) 30 (.tmp 14) rfl g (off + k * 10) rfl _ _ HRG.out Tryz.underlying30 rfl HINF.out ?_)
        | (go_at_call 131; refine HCL.out.mono ?_; rintro e w3 ⟨rfl, hb3⟩; have HB3 := Lib.hid (HBL.out.trans (hb3.mono HBL.out.size)); clear hb3))
      · rename_i hq
        go_ret
        exact ⟨_, rfl, HST.out (by rw [← hq]; exact HBB.out.symm), HB3.out⟩
      · rename_i hq
        go_roundw
        case rel => exact ⟨k + 1, by omega, by go_num, HNX.out (by first | (rw [← HBB.out]; exact hq) | (have := HBB.out; simpa [hq] using this.symm)), HB3.out⟩
        case measure => simp [intOf]; omega
    · have q1 : ¬ (k : Int) < (xs.length : Int) := by omega
      clear hbel
      go_wp2
      go_ret
      exact ⟨_, rfl, .inr ⟨rfl, fun j hj => HALL.out j hj (by omega)⟩, HBL.out⟩
end Go.Proofs.YtodckdkbheapfaaGreat
set_option linter.unusedVariables false
namespace Go.Proofs.YtodckdkbheapfaaGreat
open Go.RowKit Go.Rst Go.Tp Go.Ts
theorem idx_find {xs : List Sub} {id : Int} {k : Nat} (hk : k < xs.length) (h1 : (xs[k].id == id) = true) (h2 : ∀ j (hj : j < xs.length), j < k → (xs[j].id == id) = false) : findS xs id = some xs[k] :=
  find_drop hk (fun j hj hjk => by simpa using h2 j hj hjk) (by simpa using h1)
theorem idx_nofind {xs : List Sub} {id : Int} (h : ∀ j (hj : j < xs.length), (xs[j].id == id) = false) : findS xs id = none := find_none (fun j hj => by simpa using h j hj)
end Go.Proofs.YtodckdkbheapfaaGreat
set_option linter.unusedVariables false
namespace Go.Proofs.YtodckdkbheapfaaGreat
open Go.RowKit Go.Rst Go.Tp Go.Ts
theorem own_base {w : World} {b b' : Nat} {e : TypeId} {sz : Nat} {v : Value} {n : Nat} {xs : List Value} (h : w.ownsRow b e sz v n xs) (hb : b' ≤ b) : w.ownsRow b' e sz v n xs := by
  refine ⟨h.1, ?_⟩
  rcases h.2 with h | ⟨g, cap, cur, h1, h2, h3⟩
  · exact .inl h
  · exact .inr ⟨g, cap, cur, h1, Nat.le_trans hb h2, h3⟩
theorem ON.base_ {b b' : Nat} {w : World} {v : Value} {ys : List Sub} (h : ON b w v ys) (hb : b' ≤ b) : ON b' w v ys := let ⟨css, h1, h2, h3⟩ := h; ⟨css, own_base h1 hb, h2, h3⟩
def GivesSo (w : World) (c n l : Int) (xs : List Sub) (e : Ending) (w' : World) : Prop := ∃ v, e = .returned (.agg (stC c n l v).toArray) ∧ ON w.heap.size w' v xs ∧ Below w.heap.size w w'
set_option maxRecDepth 100000 in
set_option maxHeartbeats 8000000 in
theorem withoutP_any (c n l : Int) (v : Value) (xs : List Sub) (id : Int) (w : World) (h : RS w v xs) (hz : ∀ x ∈ xs, Sized x) (hxl : xs.length ≤ 977343669110) : Calls Tryz.prog 69 #[.agg (stC c n l v).toArray, .int .i64 id] w (GivesSo w c n l (outS xs id)) := by
  have HV := Lib.hid h
  have HZS := Lib.hid hz
  obtain ⟨A, ca, rfl, hac, ham⟩ := h.shape
  unfold maxLen at ham
  clear h hz
  unfold stC
  obtain ⟨O, hO⟩ : ∃ O : List Value, O = [.int .i64 0, .int .i64 0, .int .i64 0, .slice none 0 0] := ⟨_, rfl⟩
  obtain ⟨W0, hW0⟩ : ∃ W0, W0 = (w.alloc (.cells #[.int .i64 c, .int .i64 n, .int .i64 l, .slice A xs.length ca] 25)).alloc (.cells O.toArray 25) := ⟨_, rfl⟩
  have hst : Wh W0 w.heap.size [.int .i64 c, .int .i64 n, .int .i64 l, .slice A xs.length ca] 25 := by rw [hW0]; exact (Wh.new w _ _).alloc _
  have hzr : Wh W0 (w.heap.size + 1) O 25 := by
    have := Wh.new (w.alloc (.cells #[.int .i64 c, .int .i64 n, .int .i64 l, .slice A xs.length ca] 25)) O 25
    rw [World.size_alloc] at this
    rw [hW0]; exact this
  have hbl : Below w.heap.size w W0 := by rw [hW0]; exact below_two w _ _ _ _
  have hsz : W0.heap.size = w.heap.size + 2 := by rw [hW0]; simp
  have HOL := Lib.hid (show O.toArray.size = 4 by rw [hO]; rfl)
  rw [hO] at hW0
  have HST := Lib.hid hst
  have HZR := Lib.hid hzr
  have HBL := Lib.hid hbl
  have HSZ := Lib.hid hsz
  clear hst hzr hbl hsz hO
  go_enter Tryz.func69, Tryz.ntmps69
  go_wp2_with fail
  rw [← hW0]
  clear hW0
  refine (of_any id _).mono ?_
  rintro e W1 ⟨b, rfl, hcell, hblt, hb1⟩
  have hst1 := HST.out.below hb1
  have HST1 := Lib.hid hst1
  have HZR1 := Lib.hid (HZR.out.below hb1)
  have HB1 := Lib.hid (HBL.out.trans (hb1.mono HBL.out.size))
  have HSZ1 := Lib.hid (show w.heap.size + 2 ≤ W1.heap.size by rw [← HSZ.out]; exact hb1.size)
  have HCE := Lib.hid hcell
  have HBLT := Lib.hid hblt
  have c3 := hst1.bx.cell (i := 3) (by simp)
  simp only [List.getElem_cons_succ, List.getElem_cons_zero] at c3
  clear hb1 hcell hblt hst1 HST HZR HBL HSZ
  go_wp2_with fail
  clear c3
  go_loopw [6, 14] (fun lv i wr => ∃ k : Nat, k ≤ xs.length ∧ i = .int .i64 k ∧ ON W1.heap.size wr lv (outS (xs.take k) id) ∧ Below W1.heap.size W1 wr) (fun _ i _ => xs.length - (intOf i).toNat)
  case atStart => exact ⟨0, Nat.zero_le _, rfl, ON.nil_ _ _, Below.refl _ _⟩
  case round =>
    obtain ⟨k, hk, rfl, hos, hbel⟩ := hrel
    obtain ⟨A2, c2, rfl, hc2⟩ := hos.shape
    have HOS := Lib.hid hos
    have HBW := Lib.hid hbel
    have HBT := Lib.hid (HB1.out.trans (hbel.mono HB1.out.size))
    have hol := outS_len (xs.take k) id
    rw [List.length_take] at hol
    clear hos hbel
    by_cases hlt : k < xs.length
    · obtain ⟨g, off, av, qv, rfl, hg, hrg0, hra, hrq⟩ := rs_at HV.out hlt
      have hrg := range_below hrg0 hg HBT.out
      have htk := outS_take (id := id) hlt
      have hsx := HZS.out _ (List.getElem_mem hlt)
      obtain ⟨x, hx⟩ : ∃ x, x = xs[k] := ⟨_, rfl⟩
      rw [← hx] at hrg hra hrq htk hsx
      have hall2 := sub_all x (rl_one hra) (rl_one hrq)
      have q1 : (k : Int) < (xs.length : Int) := by omega
      obtain ⟨Aa, ka, rfl, _, haM⟩ := (RL.shape hra)
      obtain ⟨Aq, kq, rfl, _, hqM⟩ := (RL.shape hrq)
      unfold maxLen at haM hqM
      have HSX := Lib.hid hsx
      have HRA := Lib.hid (hra.below stays_ci HBT.out)
      have HRQ := Lib.hid (hrq.below stays_cm HBT.out)
      clear hrg0 hx hra hrq hsx
      obtain ⟨xid, name, topic, want, lease, most, floor, acks, queue, note⟩ := x
      simp only [subC] at hrg hall2 htk HRA HRQ HSX
      have HRG := Lib.hid hrg
      have HA2 := Lib.hid hall2
      have HNW := Lib.hid (Wh.new wr [.int .i64 0, .string ⟨#[]⟩, .string ⟨#[]⟩, .string ⟨#[]⟩, .int .i64 0, .int .i64 0, .int .i64 0, .slice none 0 0, .slice none 0 0, .string ⟨#[]⟩] 30)
      obtain ⟨W5, hW5⟩ : ∃ W5, W5 = (wr.alloc (.cells #[.int .i64 0, .string ⟨#[]⟩, .string ⟨#[]⟩, .string ⟨#[]⟩, .int .i64 0, .int .i64 0, .int .i64 0, .slice none 0 0, .slice none 0 0, .string ⟨#[]⟩] 30)).setRow wr.heap.size #[.int .i64 xid, sv name, sv topic, sv want, .int .i64 lease, .int .i64 most, .int .i64 floor, .slice Aa acks.length ka, .slice Aq queue.length kq, sv note] := ⟨_, rfl⟩
      have hx5 : Wh W5 wr.heap.size [.int .i64 xid, sv name, sv topic, sv want, .int .i64 lease, .int .i64 most, .int .i64 floor, .slice Aa acks.length ka, .slice Aq queue.length kq, sv note] 30 := by rw [hW5]; exact HNW.out.set [.int .i64 xid, sv name, sv topic, sv want, .int .i64 lease, .int .i64 most, .int .i64 floor, .slice Aa acks.length ka, .slice Aq queue.length kq, sv note]
      have hb5 : Below wr.heap.size wr W5 := by rw [hW5]; exact below_setRow ((Below.refl _ wr).alloc (Nat.le_refl _) _) (Nat.le_refl _) _
      have HX5 := Lib.hid hx5
      have HB5 := Lib.hid hb5
      have HRNG := Lib.hid (show ((wr.alloc (.cells #[.int .i64 0, .string ⟨#[]⟩, .string ⟨#[]⟩, .string ⟨#[]⟩, .int .i64 0, .int .i64 0, .int .i64 0, .slice none 0 0, .slice none 0 0, .string ⟨#[]⟩] 30)).setRow wr.heap.size #[.int .i64 xid, sv name, sv topic, sv want, .int .i64 lease, .int .i64 most, .int .i64 floor, .slice Aa acks.length ka, .slice Aq queue.length kq, sv note]).rangeAt wr.heap.size 0 [.int .i64 xid, sv name, sv topic, sv want, .int .i64 lease, .int .i64 most, .int .i64 floor, .slice Aa acks.length ka, .slice Aq queue.length kq, sv note] by rw [← hW5]; exact hx5.range)
      have HC5 := Lib.hid (of1_any ⟨xid, name, topic, want, lease, most, floor, acks, queue, note⟩ (.slice Aa acks.length ka) (.slice Aq queue.length kq) b id W5 ((hb5.cell (p := ⟨b, 0, none⟩) (Nat.lt_of_lt_of_le HBLT.out HBW.out.size)).trans ((HBW.out.cell (p := ⟨b, 0, none⟩) HBLT.out).trans HCE.out)))
      clear hx5 hb5 hrg hall2
      simp only [subC] at HC5
      have HTK := Lib.hid htk
      clear htk
      go_wp2_with (first
        | (refine wpList_load_midG (by rfl) 30 (.tmp 16) rfl g (off + k * 10) rfl _ _ HRG.out Tryz.underlying30 rfl size35 ?_)
        | (refine wpList_store_row rfl 30 (.tmp 8) (.tmp 17) rfl wr.heap.size #[.int .i64 xid, sv name, sv topic, sv want, .int .i64 lease, .int .i64 most, .int .i64 floor, .slice Aa acks.length ka, .slice Aq queue.length kq, sv note] rfl rfl 30 #[.int .i64 0, .string ⟨#[]⟩, .string ⟨#[]⟩, .string ⟨#[]⟩, .int .i64 0, .int .i64 0, .int .i64 0, .slice none 0 0, .slice none 0 0, .string ⟨#[]⟩] HNW.out size35 rfl HA2.out ?_)
        | (refine wpList_load_midG (by rfl) 30 (.tmp 8) rfl wr.heap.size 0 rfl _ _ HRNG.out Tryz.underlying30 rfl size35 ?_))
      rw [← hW5]
      clear hW5 HRNG HNW
      refine HC5.out.mono ?_
      rintro e w6 ⟨rfl, hb6⟩
      have HX6 := Lib.hid (HX5.out.below hb6)
      have HB6 := Lib.hid (HB5.out.trans (hb6.mono HB5.out.size))
      have HR6 := Lib.hid HX6.out.range
      clear hb6 HX5 HB5 HC5
      by_cases he : xid = id
      · have q2 : (xid == id) = true := by rw [he]; simp
        rw [q2]
        have HTK2 := Lib.hid (by have := HTK.out; rwa [if_pos he, List.append_nil] at this)
        have HON6 := Lib.hid (HOS.out.below HB6.out)
        have HBE := Lib.hid (HBW.out.trans (HB6.out.mono HBW.out.size))
        clear he HTK
        go_wp2
        go_roundw
        case rel => exact ⟨k + 1, by omega, by go_num, by rw [HTK2.out]; exact HON6.out, HBE.out⟩
        case measure => simp [intOf]; omega
      · have q2 : (xid == id) = false := by simpa using he
        rw [q2]
        have HTK2 := Lib.hid (by have := HTK.out; rwa [if_neg he] at this)
        have HCO := Lib.hid (own_any ⟨xid, name, topic, want, lease, most, floor, acks, queue, note⟩ (.slice Aa acks.length ka) (.slice Aq queue.length kq) w6 (HRA.out.below stays_ci HB6.out) (HRQ.out.below stays_cm HB6.out) HSX.out)
        simp only [subC] at HCO
        obtain ⟨ys, hys⟩ : ∃ ys, ys = outS (xs.take k) id := ⟨_, rfl⟩
        rw [← hys] at HOS HTK2 hol hc2 ⊢
        have HYS := Lib.hid hys
        clear he HTK hys
        go_wp2_with (refine wpList_load_midG (by rfl) 30 (.tmp 8) rfl wr.heap.size 0 rfl _ _ HR6.out Tryz.underlying30 rfl size35 ?_)
        refine HCO.out.mono ?_
        rintro e w7 ⟨cs, rfl, hcn, hb7⟩
        have hcn0 := hcn
        obtain ⟨a7, q7, rfl, hra7, hrq7⟩ := hcn
        obtain ⟨A7, k7, rfl, _⟩ := hra7.rl.shape
        obtain ⟨Q7, j7, rfl, _⟩ := hrq7.rl.shape
        have hall7 := sub_all ⟨xid, name, topic, want, lease, most, floor, acks, queue, note⟩ (rl_one hra7.rl) (rl_one hrq7.rl)
        simp only [subC] at hcn0 hall7 ⊢
        have hb67 := HB6.out.trans (hb7.mono HB6.out.size)
        obtain ⟨css, hown, hcl, hcc⟩ := HOS.out.below hb67
        have HOW := Lib.hid hown
        have HCC := Lib.hid hcc
        have HCN := Lib.hid hcn0
        have HB7 := Lib.hid (HBW.out.trans (hb67.mono HBW.out.size))
        have HSR := Lib.hid (fun (u : World) => src_cells (P := Tryz.prog) u rfl Tryz.underlying23 30 [.int .i64 xid, sv name, sv topic, sv want, .int .i64 lease, .int .i64 most, .int .i64 floor, .slice A7 acks.length k7, .slice Q7 queue.length j7, sv note] (fun u hu => by have := Array.all_eq_true_iff_forall_mem.1 hall7 u (by simpa using hu); exact this))
        clear hb7 hcn0 hra7 hrq7 hall7 hb67 hown hcc
        go_wp2_with (at_builtin; refine wpList_own rfl (.tmp 22) (.tmp 25) 23 23 rfl W1.heap.size 30 _ 10 144 Tryz.underlying23 infoSub rfl rfl (HOW.out.alloc _) rfl (HSR.out w7) (HB7.out.alloc HB7.out.size _) (Nat.le_refl _) ?_ ?_ ?_ ?_)
        · unfold maxLen; omega
        · omega
        · have := HB7.out.size; simp; omega
        · intro v8 w8 hown8 hbel8 hg8
          have hal := (Below.refl w7.heap.size w7).alloc (Nat.le_refl _) (Obj.cells #[.int .i64 xid, sv name, sv topic, sv want, .int .i64 lease, .int .i64 most, .int .i64 floor, .slice A7 acks.length k7, .slice Q7 queue.length j7, sv note] 30)
          have hon8 := ON.push (HOW.out.alloc _) hcl (fun j h1 h2 => (HCC.out j h1 h2).below hal) (HCN.out.below hal) hown8 hg8
          obtain ⟨A8, c8, rfl, _⟩ := own_shape hown8
          have HO8 := Lib.hid hon8
          have HB8 := Lib.hid hbel8
          clear hown8 hbel8 hg8 hal hon8
          go_wp2
          go_roundw
          case rel => exact ⟨k + 1, by omega, by go_num, by rw [HTK2.out]; exact HO8.out, HB8.out⟩
          case measure => simp [intOf]; omega
    · have q1 : ¬ (k : Int) < (xs.length : Int) := by omega
      have hend : outS (xs.take k) id = outS xs id := by rw [List.take_of_length_le (by omega)]
      have hrs := HOS.out
      rw [hend] at hrs ⊢
      obtain ⟨ys, hys⟩ : ∃ ys, ys = outS xs id := ⟨_, rfl⟩
      rw [← hys] at hrs ⊢
      have HYS := Lib.hid hys
      have HOSE := Lib.hid hrs
      have hsz := HSZ1.out
      have hstw := HST1.out.below HBW.out
      have hfr := hstw.frozen 3
      have c3 := hstw.bx.cell (i := 3) (by simp)
      simp only [List.getElem_cons_succ, List.getElem_cons_zero] at c3
      have hw1 := hstw.set1 3 (.slice A2 ys.length c2)
      have hw2 := (HZR1.out.below HBW.out).set1Other (k := w.heap.size) (by omega) 3 (.slice A2 ys.length c2)
      have hr1 := hw1.range
      simp only [List.set_cons_succ, List.set_cons_zero] at hr1
      have HR1 := Lib.hid hr1
      have HW2 := Lib.hid hw2
      have HSW := Lib.hid hstw
      clear hw1 hw2 hr1 hrs hys hend hstw
      go_wp2_with (first
        | (refine wpList_load_midG (by rfl) 25 (.tmp 2) rfl w.heap.size 0 rfl _ _ HR1.out Tryz.underlying25 rfl size24 ?_)
        | (refine wpList_store_row rfl 25 (.tmp 4) (.tmp 30) rfl (w.heap.size + 1) #[.int .i64 c, .int .i64 n, .int .i64 l, .slice A2 ys.length c2] rfl rfl 25 O.toArray HW2.out size24 HOL.out (st_all c n l rfl) ?_))
      refine bodyPost_ret (results_cell_row rfl _ _ (w.heap.size + 1) 25 #[.int .i64 c, .int .i64 n, .int .i64 l, .slice A2 ys.length c2] (0, 0) _ rfl (HW2.out.set [.int .i64 c, .int .i64 n, .int .i64 l, .slice A2 ys.length c2]) Tryz.underlying25 rfl size24) rfl ?_
      rw [← HYS.out]
      have hbf := below_setRow ((HBT.out).setCell (p := ⟨w.heap.size, 3, none⟩) (Nat.le_refl _) (.slice A2 ys.length c2)) (show w.heap.size ≤ w.heap.size + 1 by omega) #[.int .i64 c, .int .i64 n, .int .i64 l, .slice A2 ys.length c2]
      have hosf := (HOSE.out.kept (grown_cell wr w.heap.size 3 (.slice A2 ys.length c2)) (by omega) ⟨_, _, HSW.out, by decide, by decide⟩).kept (grown_row _ (w.heap.size + 1) #[.int .i64 c, .int .i64 n, .int .i64 l, .slice A2 ys.length c2]) (by omega) ⟨_, _, HW2.out, by decide, by decide⟩
      exact ⟨_, rfl, hosf.base_ (by omega), hbf⟩
end Go.Proofs.YtodckdkbheapfaaGreat
set_option linter.unusedVariables false
namespace Go.Proofs.YtodckdkbheapfaaGreat
open Go.RowKit Go.Rst Go.Tp Go.Ts
set_option maxRecDepth 100000 in
set_option maxHeartbeats 1000000 in
theorem cloneI2_any (v : Value) (xs : List Int) (w : World) (h : RI w v xs) (hl : xs.length * 8 ≤ 140737488355328) :
    Calls Tryz.prog 42 #[v] w fun e w' => ∃ u, e = .returned u ∧ w'.ownsRow w.heap.size 3 1 u xs.length (xs.map fun n => [Value.int .i64 n]).flatten ∧ Below w.heap.size w w' := by
  have HS := Lib.hid (src_ints (P := Tryz.prog) (h.below stays_ci ((Below.refl w.heap.size w).alloc (Nat.le_refl _) (Obj.cells #[] 3))) Tryz.underlying27)
  have HLM := Lib.hid (show 0 + xs.length ≤ maxLen by unfold maxLen; omega)
  have HLB := Lib.hid (show (0 + xs.length) * 8 ≤ 140737488355328 by omega)
  have HO := Lib.hid (own_emptyS w 3 1)
  obtain ⟨A, c, rfl, _, _, h3⟩ := h
  cases A with
  | none =>
    have hl0 : xs = [] := by
      rcases h3 with h3 | ⟨b, off, h4, _⟩
      · exact h3
      · cases h4
    subst hl0
    have e1 : (binOp .eql 27 (.slice none 0 c) (.slice none 0 0)).run Tryz.prog w = .ok (.bool true) w := eql_nilS w 27 3 none 0 c Tryz.underlying27
    rw [List.length_nil]
    clear h3
    go_enter Tryz.func42, Tryz.ntmps42
    go_wp2
    go_ret
    exact ⟨_, rfl, World.ownsRow_nil _ _ _ _, Below.refl _ _⟩
  | some a =>
    have e1 : (binOp .eql 27 (.slice (some a) xs.length c) (.slice none 0 0)).run Tryz.prog w = .ok (.bool false) w := eql_nilS w 27 3 (some a) xs.length c Tryz.underlying27
    clear h3
    go_enter Tryz.func42, Tryz.ntmps42
    go_wp2_with (at_builtin; refine wpList_own rfl (.tmp 5) (.tmp 6) 27 27 rfl w.heap.size 3 (.int .i64 0) 1 8 Tryz.underlying27 infoNum rfl rfl HO.out rfl HS.out ((Below.refl w.heap.size w).alloc (Nat.le_refl _) _) (Nat.le_refl _) HLM.out HLB.out (by simp) ?_)
    intro v5 w5 hown5 hbel5 _
    have HO5 := Lib.hid hown5
    have HB5 := Lib.hid hbel5
    obtain ⟨A5, c5, rfl, _⟩ := own_shape hown5
    clear hown5 hbel5
    go_wp2
    go_ret
    exact ⟨_, rfl, HO5.out, HB5.out⟩
set_option maxRecDepth 100000 in
set_option maxHeartbeats 1000000 in
theorem cloneM2_any (v : Value) (xs : List Msg) (w : World) (h : RM w v xs) (hl : xs.length * 88 ≤ 140737488355328) :
    Calls Tryz.prog 43 #[v] w fun e w' => ∃ u, e = .returned u ∧ w'.ownsRow w.heap.size 45 8 u xs.length (xs.map msgC).flatten ∧ Below w.heap.size w w' := by
  have HS := Lib.hid (src_msgs (P := Tryz.prog) (h.below stays_cm ((Below.refl w.heap.size w).alloc (Nat.le_refl _) (Obj.cells #[] 45))) Tryz.underlying28)
  have HLM := Lib.hid (show 0 + xs.length ≤ maxLen by unfold maxLen; omega)
  have HLB := Lib.hid (show (0 + xs.length) * 88 ≤ 140737488355328 by omega)
  have HO := Lib.hid (own_emptyS w 45 8)
  obtain ⟨A, c, rfl, _, _, h3⟩ := h
  cases A with
  | none =>
    have hl0 : xs = [] := by
      rcases h3 with h3 | ⟨b, off, h4, _⟩
      · exact h3
      · cases h4
    subst hl0
    have e1 : (binOp .eql 28 (.slice none 0 c) (.slice none 0 0)).run Tryz.prog w = .ok (.bool true) w := eql_nilS w 28 45 none 0 c Tryz.underlying28
    rw [List.length_nil]
    clear h3
    go_enter Tryz.func43, Tryz.ntmps43
    go_wp2
    go_ret
    exact ⟨_, rfl, World.ownsRow_nil _ _ _ _, Below.refl _ _⟩
  | some a =>
    have e1 : (binOp .eql 28 (.slice (some a) xs.length c) (.slice none 0 0)).run Tryz.prog w = .ok (.bool false) w := eql_nilS w 28 45 (some a) xs.length c Tryz.underlying28
    clear h3
    go_enter Tryz.func43, Tryz.ntmps43
    go_wp2_with (at_builtin; refine wpList_own rfl (.tmp 5) (.tmp 6) 28 28 rfl w.heap.size 45 (.agg #[.int .i64 0, .string .empty, .string .empty, .int .i64 0, .int .i64 0, .bool false, .string .empty, .int .i64 0]) 8 88 Tryz.underlying28 infoMsg rfl rfl HO.out rfl HS.out ((Below.refl w.heap.size w).alloc (Nat.le_refl _) _) (Nat.le_refl _) HLM.out HLB.out (by simp) ?_)
    intro v5 w5 hown5 hbel5 _
    have HO5 := Lib.hid hown5
    have HB5 := Lib.hid hbel5
    obtain ⟨A5, c5, rfl, _⟩ := own_shape hown5
    clear hown5 hbel5
    go_wp2
    go_ret
    exact ⟨_, rfl, HO5.out, HB5.out⟩
def GivesOwn2 (w : World) (x : Sub) (e : Ending) (w' : World) : Prop := ∃ av qv, e = .returned (.agg (subC x av qv).toArray) ∧ w'.ownsRow w.heap.size 3 1 av x.acks.length (x.acks.map fun n => [Value.int .i64 n]).flatten ∧ w'.ownsRow w.heap.size 45 8 qv x.queue.length (x.queue.map msgC).flatten ∧ Below w.heap.size w w'
set_option maxRecDepth 100000 in
set_option maxHeartbeats 4000000 in
theorem own2_any (x : Sub) (av qv : Value) (w : World) (ha : RI w av x.acks) (hq : RM w qv x.queue) (hz : Sized x) :
    Calls Tryz.prog 103 #[.agg (subC x av qv).toArray] w (GivesOwn2 w x) := by
  have hone := sub_all x (rl_one ha) (rl_one hq)
  obtain ⟨hz1, hz2⟩ := hz
  obtain ⟨Aa, ka, rfl, _, ham⟩ := ha.shape
  obtain ⟨Aq, kq, rfl, _, hqm⟩ := hq.shape
  unfold maxLen at ham hqm
  obtain ⟨Z, hZ⟩ : ∃ Z : List Value, Z = [.int .i64 0, .string ⟨#[]⟩, .string ⟨#[]⟩, .string ⟨#[]⟩, .int .i64 0, .int .i64 0, .int .i64 0, .slice none 0 0, .slice none 0 0, .string ⟨#[]⟩] := ⟨_, rfl⟩
  obtain ⟨W0, hW0⟩ : ∃ W0, W0 = (w.alloc (.cells (subC x (.slice Aa x.acks.length ka) (.slice Aq x.queue.length kq)).toArray 30)).alloc (.cells Z.toArray 30) := ⟨_, rfl⟩
  have hx0 : Wh W0 w.heap.size (subC x (.slice Aa x.acks.length ka) (.slice Aq x.queue.length kq)) 30 := by rw [hW0]; exact (Wh.new w _ _).alloc _
  have ho0 : Wh W0 (w.heap.size + 1) Z 30 := by
    have := Wh.new (w.alloc (.cells (subC x (.slice Aa x.acks.length ka) (.slice Aq x.queue.length kq)).toArray 30)) Z 30
    rw [World.size_alloc] at this
    rw [hW0]; exact this
  have hb0 : Below w.heap.size w W0 := by rw [hW0]; exact below_two w _ _ _ _
  have hs0 : W0.heap.size = w.heap.size + 2 := by rw [hW0]; simp
  have HCA := Lib.hid (cloneI2_any (.slice Aa x.acks.length ka) x.acks W0 (ha.below stays_ci hb0) (by omega))
  have HQ := Lib.hid hq
  have HX0 := Lib.hid hx0
  have HO0 := Lib.hid ho0
  have HB0 := Lib.hid hb0
  have HS0 := Lib.hid hs0
  have HL2 := Lib.hid hz2
  have HZL := Lib.hid (show Z.toArray.size = 10 by rw [hZ]; rfl)
  rw [hZ] at hW0
  obtain ⟨xx, hxx⟩ : ∃ xx, xx = x := ⟨_, rfl⟩
  rw [show GivesOwn2 w x = GivesOwn2 w xx by rw [hxx]]
  have HXX := Lib.hid hxx
  clear ha hq hx0 ho0 hb0 hs0 hz1 hz2 hZ hone hxx
  obtain ⟨id, name, topic, want, lease, most, floor, acks, queue, note⟩ := x
  simp only [subC] at HX0 hW0 HCA HQ ⊢
  go_enter Tryz.func103, Tryz.ntmps103
  go_wp2_with fail
  rw [← hW0]
  clear hW0
  refine HCA.out.mono ?_
  rintro e w1 ⟨u, rfl, hu, hb1⟩
  have hbt := HB0.out.trans (hb1.mono HB0.out.size)
  obtain ⟨Au, ku, rfl, _, hum⟩ := (rlt_ints hu).rl.shape
  unfold maxLen at hum
  have hx1 := HX0.out.below hb1
  have hx2 := hx1.set1 7 (.slice Au acks.length ku)
  simp only [List.set_cons_succ, List.set_cons_zero] at hx2
  have ho2 := (HO0.out.below hb1).set1Other (k := w.heap.size) (by omega) 7 (.slice Au acks.length ku)
  have f7 := hx1.frozen 7
  have c7 := hx1.bx.cell (i := 7) (by simp)
  simp only [List.getElem_cons_succ, List.getElem_cons_zero] at c7
  have hu2 := own_apart hu (grown_cell w1 w.heap.size 7 (.slice Au acks.length ku)) (fun k hk => by have := (hu.lt k hk).1; have := HS0.out; omega)
  have hbs := hbt.setCell (p := ⟨w.heap.size, 7, none⟩) (Nat.le_refl _) (.slice Au acks.length ku)
  have hsz2 : (w1.setCell ⟨w.heap.size, 7, none⟩ (.slice Au acks.length ku)).heap.size = w1.heap.size := by simp
  have hl1 := hx1.lt
  have hl2 := ho2.lt
  obtain ⟨W2, hW2⟩ : ∃ W2, W2 = w1.setCell ⟨w.heap.size, 7, none⟩ (.slice Au acks.length ku) := ⟨_, rfl⟩
  rw [← hW2] at hx2 ho2 hu2 hbs hsz2 hl2
  have c8 := hx2.bx.cell (i := 8) (by simp)
  simp only [List.getElem_cons_succ, List.getElem_cons_zero] at c8
  rw [hW2] at c8
  have HX2 := Lib.hid hx2
  have HO2 := Lib.hid ho2
  have HU2 := Lib.hid hu2
  have HB2 := Lib.hid hbs
  have HZ2 := Lib.hid hsz2
  have HL := Lib.hid hl1
  have HLB := Lib.hid hl2
  have HCM := Lib.hid (cloneM2_any (.slice Aq queue.length kq) queue W2 (HQ.out.below stays_cm (HB2.out.mono (Nat.le_refl _))) (Nat.le_trans (Nat.mul_le_mul_right 88 HL2.out) (by decide)))
  clear hu hb1 hbt hx1 hx2 ho2 hu2 hbs hsz2 hl1 hl2 HX0 HO0 HCA
  go_wp2_with fail
  rw [← hW2]
  clear hW2 c8 f7 c7
  refine HCM.out.mono ?_
  rintro e w3 ⟨u3, rfl, hu3, hb3⟩
  obtain ⟨A3, k3, rfl, _, hum3⟩ := (rlt_msgs hu3).rl.shape
  unfold maxLen at hum3
  have hbt3 := HB2.out.trans (hb3.mono HB2.out.size)
  have hx3 := HX2.out.below hb3
  have hx4 := hx3.set1 8 (.slice A3 queue.length k3)
  simp only [List.set_cons_succ, List.set_cons_zero] at hx4
  have hl0 := HLB.out
  have hs0 := HS0.out
  have ho4 := (HO2.out.below hb3).set1Other (k := w.heap.size) (by omega) 8 (.slice A3 queue.length k3)
  have f8 := hx3.frozen 8
  have c8 := hx3.bx.cell (i := 8) (by simp)
  simp only [List.getElem_cons_succ, List.getElem_cons_zero] at c8
  have hg4 := grown_cell w3 w.heap.size 8 (.slice A3 queue.length k3)
  have hu4 := own_apart hu3 hg4 (fun k hk => by have := (hu3.lt k hk).1; have := HX2.out.lt; omega)
  have hu5 := own_apart (own_below HU2.out hb3) hg4 (fun k hk => by have := (HU2.out.lt k hk).1; have := HS0.out; omega)
  have hbs4 := hbt3.setCell (p := ⟨w.heap.size, 8, none⟩) (Nat.le_refl _) (.slice A3 queue.length k3)
  have hr4 := hx4.range
  have hva : (#[.int .i64 id, sv name, sv topic, sv want, .int .i64 lease, .int .i64 most, .int .i64 floor, .slice Au acks.length ku, .slice A3 queue.length k3, sv note] : Array Value).all (·.oneCell') = true := sub_all ⟨id, name, topic, want, lease, most, floor, acks, queue, note⟩ (av := .slice Au acks.length ku) (qv := .slice A3 queue.length k3) rfl rfl
  have HR4 := Lib.hid hr4
  have HO4 := Lib.hid ho4
  have HU4 := Lib.hid hu4
  have HU5 := Lib.hid hu5
  have HB4 := Lib.hid hbs4
  have HVA := Lib.hid hva
  clear hu3 hb3 hx3 hx4 ho4 hg4 hu4 hu5 hbs4 hr4 hva hbt3
  go_wp2_with (first
    | (refine wpList_load_midG (by rfl) 30 (.tmp 1) rfl w.heap.size 0 rfl _ _ HR4.out Tryz.underlying30 rfl size35 ?_)
    | (refine wpList_store_row rfl 30 (.tmp 2) (.tmp 11) rfl (w.heap.size + 1) #[.int .i64 id, sv name, sv topic, sv want, .int .i64 lease, .int .i64 most, .int .i64 floor, .slice Au acks.length ku, .slice A3 queue.length k3, sv note] rfl rfl 30 Z.toArray HO4.out size35 HZL.out HVA.out ?_))
  refine bodyPost_ret (results_cell_row rfl _ _ (w.heap.size + 1) 30 #[.int .i64 id, sv name, sv topic, sv want, .int .i64 lease, .int .i64 most, .int .i64 floor, .slice Au acks.length ku, .slice A3 queue.length k3, sv note] (0, 0) _ rfl (HO4.out.set [.int .i64 id, sv name, sv topic, sv want, .int .i64 lease, .int .i64 most, .int .i64 floor, .slice Au acks.length ku, .slice A3 queue.length k3, sv note]) Tryz.underlying30 rfl size35) rfl ?_
  rw [HXX.out]
  have hgr := grown_row (w3.setCell ⟨w.heap.size, 8, none⟩ (.slice A3 queue.length k3)) (w.heap.size + 1) #[.int .i64 id, sv name, sv topic, sv want, .int .i64 lease, .int .i64 most, .int .i64 floor, .slice Au acks.length ku, .slice A3 queue.length k3, sv note]
  have hs0 := HS0.out
  have hl2 := HX2.out.lt
  have hh2 := HZ2.out
  refine ⟨_, _, rfl, ?_, ?_, below_setRow HB4.out (by omega) #[.int .i64 id, sv name, sv topic, sv want, .int .i64 lease, .int .i64 most, .int .i64 floor, .slice Au acks.length ku, .slice A3 queue.length k3, sv note]⟩
  · exact own_base (own_apart HU5.out hgr (fun k hk => by have := (HU5.out.lt k hk).1; omega)) (by omega)
  · exact own_base (own_apart HU4.out hgr (fun k hk => by have := (HU4.out.lt k hk).1; have := HLB.out; omega)) (by omega)
end Go.Proofs.YtodckdkbheapfaaGreat
