/-
  The contract of the program's Without (layer state).
-/
import Derived.Test.YtcmkmdghekkkhaaDoorPsFind
import Derived.Test.YtcmkmdghekkkhaaDoorTsOutM
set_option linter.unusedVariables false
namespace Go.Proofs.YtcmkmdghekkkhaaDoor
open Go.RowKit Go.Rst Go.Tp Go.Ts
theorem own_base {w : World} {b b' : Nat} {e : TypeId} {sz : Nat} {v : Value} {n : Nat} {xs : List Value} (h : w.ownsRow b e sz v n xs) (hb : b' ≤ b) : w.ownsRow b' e sz v n xs := by
  refine ⟨h.1, ?_⟩
  rcases h.2 with h | ⟨g, cap, cur, h1, h2, h3⟩
  · exact .inl h
  · exact .inr ⟨g, cap, cur, h1, Nat.le_trans hb h2, h3⟩
theorem ON.base_ {b b' : Nat} {w : World} {v : Value} {ys : List Sub} (h : ON b w v ys) (hb : b' ≤ b) : ON b' w v ys := let ⟨css, h1, h2, h3⟩ := h; ⟨css, own_base h1 hb, h2, h3⟩
/-- A state, by value, its subscriptions the call's own. -/
def GivesSo (w : World) (c n l : Int) (xs : List Sub) (e : Ending) (w' : World) : Prop := ∃ v, e = .returned (.agg (stC c n l v).toArray) ∧ ON w.heap.size w' v xs ∧ Below w.heap.size w w'
set_option maxRecDepth 100000 in
set_option maxHeartbeats 8000000 in
theorem withoutP_any (c n l : Int) (v : Value) (xs : List Sub) (id : Int) (w : World) (h : RS w v xs) (hz : ∀ x ∈ xs, Sized x) (hxl : xs.length ≤ 977343669110) : Calls Tryd.prog 18 #[.agg (stC c n l v).toArray, .int .i64 id] w (GivesSo w c n l (outS xs id)) := by
  have HV := Lib.hid h
  have HZS := Lib.hid hz
  obtain ⟨A, ca, rfl, hac, ham⟩ := h.shape
  unfold maxLen at ham
  clear h hz
  unfold stC
  obtain ⟨O, hO⟩ : ∃ O : List Value, O = [.int .i64 0, .int .i64 0, .int .i64 0, .slice none 0 0] := ⟨_, rfl⟩
  obtain ⟨W0, hW0⟩ : ∃ W0, W0 = (w.alloc (.cells #[.int .i64 c, .int .i64 n, .int .i64 l, .slice A xs.length ca] 24)).alloc (.cells O.toArray 24) := ⟨_, rfl⟩
  have hst : Wh W0 w.heap.size [.int .i64 c, .int .i64 n, .int .i64 l, .slice A xs.length ca] 24 := by rw [hW0]; exact (Wh.new w _ _).alloc _
  have hzr : Wh W0 (w.heap.size + 1) O 24 := by
    have := Wh.new (w.alloc (.cells #[.int .i64 c, .int .i64 n, .int .i64 l, .slice A xs.length ca] 24)) O 24
    rw [World.size_alloc] at this
    rw [hW0]; exact this
  have hbl : Below w.heap.size w W0 := by rw [hW0]; exact below_two w _ _ _ _
  have hsz : W0.heap.size = w.heap.size + 2 := by rw [hW0]; simp
  have HOL := Lib.hid (show O.toArray.size = 4 by rw [hO]; rfl)
  rw [hO] at hW0
  have HST := Lib.hid hst
  have HZR := Lib.hid hzr
  have HBL := Lib.hid hbl
  have HSZ := Lib.hid hsz
  clear hst hzr hbl hsz hO
  go_enter Tryd.func18, Tryd.ntmps18
  go_wp2_with fail
  rw [← hW0]
  clear hW0
  refine (of_any id _).mono ?_
  rintro e W1 ⟨b, rfl, hcell, hblt, hb1⟩
  have hst1 := HST.out.below hb1
  have HST1 := Lib.hid hst1
  have HZR1 := Lib.hid (HZR.out.below hb1)
  have HB1 := Lib.hid (HBL.out.trans (hb1.mono HBL.out.size))
  have HSZ1 := Lib.hid (show w.heap.size + 2 ≤ W1.heap.size by rw [← HSZ.out]; exact hb1.size)
  have HCE := Lib.hid hcell
  have HBLT := Lib.hid hblt
  have c3 := hst1.bx.cell (i := 3) (by simp)
  simp only [List.getElem_cons_succ, List.getElem_cons_zero] at c3
  clear hb1 hcell hblt hst1 HST HZR HBL HSZ
  go_wp2_with fail
  clear c3
  go_loopw [6, 14] (fun lv i wr => ∃ k : Nat, k ≤ xs.length ∧ i = .int .i64 k ∧ ON W1.heap.size wr lv (outS (xs.take k) id) ∧ Below W1.heap.size W1 wr) (fun _ i _ => xs.length - (intOf i).toNat)
  case atStart => exact ⟨0, Nat.zero_le _, rfl, ON.nil_ _ _, Below.refl _ _⟩
  case round =>
    obtain ⟨k, hk, rfl, hos, hbel⟩ := hrel
    obtain ⟨A2, c2, rfl, hc2⟩ := hos.shape
    have HOS := Lib.hid hos
    have HBW := Lib.hid hbel
    have HBT := Lib.hid (HB1.out.trans (hbel.mono HB1.out.size))
    have hol := outS_len (xs.take k) id
    rw [List.length_take] at hol
    clear hos hbel
    by_cases hlt : k < xs.length
    · obtain ⟨g, off, av, qv, rfl, hg, hrg0, hra, hrq⟩ := rs_at HV.out hlt
      have hrg := range_below hrg0 hg HBT.out
      have htk := outS_take (id := id) hlt
      have hsx := HZS.out _ (List.getElem_mem hlt)
      obtain ⟨x, hx⟩ : ∃ x, x = xs[k] := ⟨_, rfl⟩
      rw [← hx] at hrg hra hrq htk hsx
      have hall2 := sub_all x (rl_one hra) (rl_one hrq)
      have q1 : (k : Int) < (xs.length : Int) := by omega
      obtain ⟨Aa, ka, rfl, _, haM⟩ := (RL.shape hra)
      obtain ⟨Aq, kq, rfl, _, hqM⟩ := (RL.shape hrq)
      unfold maxLen at haM hqM
      have HSX := Lib.hid hsx
      have HRA := Lib.hid (hra.below stays_ci HBT.out)
      have HRQ := Lib.hid (hrq.below stays_cm HBT.out)
      clear hrg0 hx hra hrq hsx
      obtain ⟨xid, name, topic, want, lease, most, floor, acks, queue, note⟩ := x
      simp only [subC] at hrg hall2 htk HRA HRQ HSX
      have HRG := Lib.hid hrg
      have HA2 := Lib.hid hall2
      have HNW := Lib.hid (Wh.new wr [.int .i64 0, .string ⟨#[]⟩, .string ⟨#[]⟩, .string ⟨#[]⟩, .int .i64 0, .int .i64 0, .int .i64 0, .slice none 0 0, .slice none 0 0, .string ⟨#[]⟩] 35)
      obtain ⟨W5, hW5⟩ : ∃ W5, W5 = (wr.alloc (.cells #[.int .i64 0, .string ⟨#[]⟩, .string ⟨#[]⟩, .string ⟨#[]⟩, .int .i64 0, .int .i64 0, .int .i64 0, .slice none 0 0, .slice none 0 0, .string ⟨#[]⟩] 35)).setRow wr.heap.size #[.int .i64 xid, sv name, sv topic, sv want, .int .i64 lease, .int .i64 most, .int .i64 floor, .slice Aa acks.length ka, .slice Aq queue.length kq, sv note] := ⟨_, rfl⟩
      have hx5 : Wh W5 wr.heap.size [.int .i64 xid, sv name, sv topic, sv want, .int .i64 lease, .int .i64 most, .int .i64 floor, .slice Aa acks.length ka, .slice Aq queue.length kq, sv note] 35 := by rw [hW5]; exact HNW.out.set [.int .i64 xid, sv name, sv topic, sv want, .int .i64 lease, .int .i64 most, .int .i64 floor, .slice Aa acks.length ka, .slice Aq queue.length kq, sv note]
      have hb5 : Below wr.heap.size wr W5 := by rw [hW5]; exact below_setRow ((Below.refl _ wr).alloc (Nat.le_refl _) _) (Nat.le_refl _) _
      have HX5 := Lib.hid hx5
      have HB5 := Lib.hid hb5
      have HRNG := Lib.hid (show ((wr.alloc (.cells #[.int .i64 0, .string ⟨#[]⟩, .string ⟨#[]⟩, .string ⟨#[]⟩, .int .i64 0, .int .i64 0, .int .i64 0, .slice none 0 0, .slice none 0 0, .string ⟨#[]⟩] 35)).setRow wr.heap.size #[.int .i64 xid, sv name, sv topic, sv want, .int .i64 lease, .int .i64 most, .int .i64 floor, .slice Aa acks.length ka, .slice Aq queue.length kq, sv note]).rangeAt wr.heap.size 0 [.int .i64 xid, sv name, sv topic, sv want, .int .i64 lease, .int .i64 most, .int .i64 floor, .slice Aa acks.length ka, .slice Aq queue.length kq, sv note] by rw [← hW5]; exact hx5.range)
      have HC5 := Lib.hid (of1_any ⟨xid, name, topic, want, lease, most, floor, acks, queue, note⟩ (.slice Aa acks.length ka) (.slice Aq queue.length kq) b id W5 ((hb5.cell (p := ⟨b, 0, none⟩) (Nat.lt_of_lt_of_le HBLT.out HBW.out.size)).trans ((HBW.out.cell (p := ⟨b, 0, none⟩) HBLT.out).trans HCE.out)))
      clear hx5 hb5 hrg hall2
      simp only [subC] at HC5
      have HTK := Lib.hid htk
      clear htk
      go_wp2_with (first
        | (refine wpList_load_midG (by rfl) 35 (.tmp 16) rfl g (off + k * 10) rfl _ _ HRG.out Tryd.underlying35 rfl size35 ?_)
        | (refine wpList_store_row rfl 35 (.tmp 8) (.tmp 17) rfl wr.heap.size #[.int .i64 xid, sv name, sv topic, sv want, .int .i64 lease, .int .i64 most, .int .i64 floor, .slice Aa acks.length ka, .slice Aq queue.length kq, sv note] rfl rfl 35 #[.int .i64 0, .string ⟨#[]⟩, .string ⟨#[]⟩, .string ⟨#[]⟩, .int .i64 0, .int .i64 0, .int .i64 0, .slice none 0 0, .slice none 0 0, .string ⟨#[]⟩] HNW.out size35 rfl HA2.out ?_)
        | (refine wpList_load_midG (by rfl) 35 (.tmp 8) rfl wr.heap.size 0 rfl _ _ HRNG.out Tryd.underlying35 rfl size35 ?_))
      rw [← hW5]
      clear hW5 HRNG HNW
      refine HC5.out.mono ?_
      rintro e w6 ⟨rfl, hb6⟩
      have HX6 := Lib.hid (HX5.out.below hb6)
      have HB6 := Lib.hid (HB5.out.trans (hb6.mono HB5.out.size))
      have HR6 := Lib.hid HX6.out.range
      clear hb6 HX5 HB5 HC5
      by_cases he : xid = id
      · have q2 : (xid == id) = true := by rw [he]; simp
        rw [q2]
        have HTK2 := Lib.hid (by have := HTK.out; rwa [if_pos he, List.append_nil] at this)
        have HON6 := Lib.hid (HOS.out.below HB6.out)
        have HBE := Lib.hid (HBW.out.trans (HB6.out.mono HBW.out.size))
        clear he HTK
        go_wp2
        go_roundw
        case rel => exact ⟨k + 1, by omega, by go_num, by rw [HTK2.out]; exact HON6.out, HBE.out⟩
        case measure => simp [intOf]; omega
      · have q2 : (xid == id) = false := by simpa using he
        rw [q2]
        have HTK2 := Lib.hid (by have := HTK.out; rwa [if_neg he] at this)
        have HCO := Lib.hid (own_any ⟨xid, name, topic, want, lease, most, floor, acks, queue, note⟩ (.slice Aa acks.length ka) (.slice Aq queue.length kq) w6 (HRA.out.below stays_ci HB6.out) (HRQ.out.below stays_cm HB6.out) HSX.out)
        simp only [subC] at HCO
        obtain ⟨ys, hys⟩ : ∃ ys, ys = outS (xs.take k) id := ⟨_, rfl⟩
        rw [← hys] at HOS HTK2 hol hc2 ⊢
        have HYS := Lib.hid hys
        clear he HTK hys
        go_wp2_with (refine wpList_load_midG (by rfl) 35 (.tmp 8) rfl wr.heap.size 0 rfl _ _ HR6.out Tryd.underlying35 rfl size35 ?_)
        refine HCO.out.mono ?_
        rintro e w7 ⟨cs, rfl, hcn, hb7⟩
        have hcn0 := hcn
        obtain ⟨a7, q7, rfl, hra7, hrq7⟩ := hcn
        obtain ⟨A7, k7, rfl, _⟩ := hra7.rl.shape
        obtain ⟨Q7, j7, rfl, _⟩ := hrq7.rl.shape
        have hall7 := sub_all ⟨xid, name, topic, want, lease, most, floor, acks, queue, note⟩ (rl_one hra7.rl) (rl_one hrq7.rl)
        simp only [subC] at hcn0 hall7 ⊢
        have hb67 := HB6.out.trans (hb7.mono HB6.out.size)
        obtain ⟨css, hown, hcl, hcc⟩ := HOS.out.below hb67
        have HOW := Lib.hid hown
        have HCC := Lib.hid hcc
        have HCN := Lib.hid hcn0
        have HB7 := Lib.hid (HBW.out.trans (hb67.mono HBW.out.size))
        have HSR := Lib.hid (fun (u : World) => src_cells (P := Tryd.prog) u rfl Tryd.underlying22 35 [.int .i64 xid, sv name, sv topic, sv want, .int .i64 lease, .int .i64 most, .int .i64 floor, .slice A7 acks.length k7, .slice Q7 queue.length j7, sv note] (fun u hu => by have := Array.all_eq_true_iff_forall_mem.1 hall7 u (by simpa using hu); exact this))
        clear hb7 hcn0 hra7 hrq7 hall7 hb67 hown hcc
        go_wp2_with (at_builtin; refine wpList_own rfl (.tmp 22) (.tmp 25) 22 22 rfl W1.heap.size 35 _ 10 144 Tryd.underlying22 infoSub rfl rfl (HOW.out.alloc _) rfl (HSR.out w7) (HB7.out.alloc HB7.out.size _) (Nat.le_refl _) ?_ ?_ ?_ ?_)
        · unfold maxLen; omega
        · omega
        · have := HB7.out.size; simp; omega
        · intro v8 w8 hown8 hbel8 hg8
          have hal := (Below.refl w7.heap.size w7).alloc (Nat.le_refl _) (Obj.cells #[.int .i64 xid, sv name, sv topic, sv want, .int .i64 lease, .int .i64 most, .int .i64 floor, .slice A7 acks.length k7, .slice Q7 queue.length j7, sv note] 35)
          have hon8 := ON.push (HOW.out.alloc _) hcl (fun j h1 h2 => (HCC.out j h1 h2).below hal) (HCN.out.below hal) hown8 hg8
          obtain ⟨A8, c8, rfl, _⟩ := own_shape hown8
          have HO8 := Lib.hid hon8
          have HB8 := Lib.hid hbel8
          clear hown8 hbel8 hg8 hal hon8
          go_wp2
          go_roundw
          case rel => exact ⟨k + 1, by omega, by go_num, by rw [HTK2.out]; exact HO8.out, HB8.out⟩
          case measure => simp [intOf]; omega
    · have q1 : ¬ (k : Int) < (xs.length : Int) := by omega
      have hend : outS (xs.take k) id = outS xs id := by rw [List.take_of_length_le (by omega)]
      have hrs := HOS.out
      rw [hend] at hrs ⊢
      obtain ⟨ys, hys⟩ : ∃ ys, ys = outS xs id := ⟨_, rfl⟩
      rw [← hys] at hrs ⊢
      have HYS := Lib.hid hys
      have HOSE := Lib.hid hrs
      have hsz := HSZ1.out
      have hstw := HST1.out.below HBW.out
      have hfr := hstw.frozen 3
      have c3 := hstw.bx.cell (i := 3) (by simp)
      simp only [List.getElem_cons_succ, List.getElem_cons_zero] at c3
      have hw1 := hstw.set1 3 (.slice A2 ys.length c2)
      have hw2 := (HZR1.out.below HBW.out).set1Other (k := w.heap.size) (by omega) 3 (.slice A2 ys.length c2)
      have hr1 := hw1.range
      simp only [List.set_cons_succ, List.set_cons_zero] at hr1
      have HR1 := Lib.hid hr1
      have HW2 := Lib.hid hw2
      have HSW := Lib.hid hstw
      clear hw1 hw2 hr1 hrs hys hend hstw
      go_wp2_with (first
        | (refine wpList_load_midG (by rfl) 24 (.tmp 2) rfl w.heap.size 0 rfl _ _ HR1.out Tryd.underlying24 rfl size24 ?_)
        | (refine wpList_store_row rfl 24 (.tmp 4) (.tmp 30) rfl (w.heap.size + 1) #[.int .i64 c, .int .i64 n, .int .i64 l, .slice A2 ys.length c2] rfl rfl 24 O.toArray HW2.out size24 HOL.out (st_all c n l rfl) ?_))
      refine bodyPost_ret (results_cell_row rfl _ _ (w.heap.size + 1) 24 #[.int .i64 c, .int .i64 n, .int .i64 l, .slice A2 ys.length c2] (0, 0) _ rfl (HW2.out.set [.int .i64 c, .int .i64 n, .int .i64 l, .slice A2 ys.length c2]) Tryd.underlying24 rfl size24) rfl ?_
      rw [← HYS.out]
      have hbf := below_setRow ((HBT.out).setCell (p := ⟨w.heap.size, 3, none⟩) (Nat.le_refl _) (.slice A2 ys.length c2)) (show w.heap.size ≤ w.heap.size + 1 by omega) #[.int .i64 c, .int .i64 n, .int .i64 l, .slice A2 ys.length c2]
      have hosf := (HOSE.out.kept (grown_cell wr w.heap.size 3 (.slice A2 ys.length c2)) (by omega) ⟨_, _, HSW.out, by decide, by decide⟩).kept (grown_row _ (w.heap.size + 1) #[.int .i64 c, .int .i64 n, .int .i64 l, .slice A2 ys.length c2]) (by omega) ⟨_, _, HW2.out, by decide, by decide⟩
      exact ⟨_, rfl, hosf.base_ (by omega), hbf⟩
end Go.Proofs.YtcmkmdghekkkhaaDoor
