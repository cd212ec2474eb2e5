/-
 The contract of the program's Apply: rising rows behind changes.
-/
import Derived.RangeFuncBox
import Derived.Test.YtmbkaedhllfoeaaKVB
import Derived.Test.YtmbkaedhllfoeaaKVCH
import Derived.Test.YtmbkaedhllfoeaaKVEA
import Derived.Test.YtmbkaedhllfoeaaKVED
import Derived.Test.YtmbkaedhllfoeaaKVEE
set_option linter.unusedVariables false
namespace Go.Pg
open Go.Rst
theorem step_out {l : List Rw} {k : ByteArray} {v : List UInt8} (hl : Sorted l) (h : hasL k l = true) : stepL l (k, v, true) = l.take (posL k l) ++ l.drop (posL k l + 1) := by
 unfold stepL
 rw [if_pos rfl, out_pos hl, if_pos h]
theorem step_none {l : List Rw} {k : ByteArray} {v : List UInt8} (hl : Sorted l) (h : hasL k l = false) : stepL l (k, v, true) = l := by
 unfold stepL
 rw [if_pos rfl, out_pos hl, if_neg (by rw [h]; decide)]
theorem step_set {l : List Rw} {k : ByteArray} {v : List UInt8} (hl : Sorted l) (h : hasL k l = true) : stepL l (k, v, false) = l.set (posL k l) (k, v) := by
 unfold stepL
 rw [if_neg (by simp), lay_pos hl, if_pos h]
theorem step_ins {l : List Rw} {k : ByteArray} {v : List UInt8} (hl : Sorted l) (h : hasL k l = false) : stepL l (k, v, false) = l.take (posL k l) ++ (k, v) :: l.drop (posL k l) := by
 unfold stepL
 rw [if_neg (by simp), lay_pos hl, if_neg (by simp only; rw [h]; decide)]
theorem has_lt {l : List Rw} {k : ByteArray} (h : hasL k l = true) : posL k l < l.length := by
 rcases Nat.lt_or_ge (posL k l) l.length with h1 | h1
 ·exact h1
 ·rw [has_end (by omega)] at h
  cases h
end Go.Pg
namespace Go.Proofs.Ytmbkaedhllfoeaa
open Go.RowKit Go.Rst Go.Pg Go.Crc
theorem own_below_lt {w : World} {base : Nat} {v : Value} {rs : List Rw} (h : OR 5 47 w base v rs) (g : Nat) (hg : v.ownBlock = some g) : g < w.heap.size := by
 obtain ⟨us, _, ho, _⟩ := h
 rcases ho.2 with ⟨rfl, _⟩ | ⟨g', cap, cur, rfl, _, hgb, _⟩
 ·simp [Value.ownBlock] at hg
 ·obtain rfl : g' = g := by simpa [Value.ownBlock] using hg
  exact (Array.getElem?_eq_some_iff.1 hgb).1
set_option maxRecDepth 100000 in
set_option maxHeartbeats 8000000 in
theorem apply_any (v u : Value) (rs : List Rw) (cs : List Chg) (w : World) (hv : RR w v rs) (hs : Sorted rs) (hu : RC w u cs) (hlen : rs.length + cs.length ≤ 3000000000000) (hrl : ∀ r ∈ rs, r.2.length ≤ 140737488355328) (hcl : ∀ c ∈ cs, c.2.1.length ≤ 140737488355328) :
  Calls Try.prog 27 #[v, u] w fun e w' => ∃ v', e = .returned v' ∧ OR 5 47 w' w.heap.size v' (applyL rs cs) ∧ Below w.heap.size w w' := by
 have HV := Lib.hid hv
 have HC := Lib.hid hu
 have HS := Lib.hid hs
 have HRL := Lib.hid hrl
 have HCL := Lib.hid hcl
 obtain ⟨A0, c0, rfl, _, _⟩ := rr_shape hv
 obtain ⟨Au, cu, rfl, hlu, hcu, _⟩ := hu
 unfold maxLen at hcu
 clear hv hs hrl hcl
 go_enter Try.func27, Try.ntmps27
 go_wp2
 go_loopw [5, 15] (fun ov i wr => ∃ k : Nat, k ≤ rs.length ∧ i = .int .i64 k ∧ OR 5 47 wr w.heap.size ov (rs.take k) ∧ Below w.heap.size w wr) (fun _ i _ => rs.length - (intOf i).toNat)
 case atStart => exact ⟨0, Nat.zero_le _, rfl, OR.nil_ _ _ _ _, Below.refl _ _⟩
 case round =>
  obtain ⟨k, hk, rfl, hor, hbel⟩ := hrel
  obtain ⟨Wo, hWo⟩ : ∃ x, x = wr := ⟨_, rfl⟩
  subst hWo
  by_cases hlt : k < rs.length
  ·obtain ⟨b, off, u1, rfl, hx1, hy1, hr1⟩ := rr_at HV.out hlt
   have hbw : b < w.heap.size := block_lt_of_cell hx1
   have hx1' := (hbel.cell (p := ⟨b, off + k * 2, none⟩) hbw).trans hx1
   have hy1' := (hbel.cell (p := ⟨b, off + k * 2 + 1, none⟩) hbw).trans hy1
   have hrow := hr1.below hbel
   have htake := List.take_succ_eq_append_getElem hlt
   have hvl := HRL.out rs[k] (List.getElem_mem hlt)
   obtain ⟨kk, hkk⟩ : ∃ x, x = rs[k].1 := ⟨_, rfl⟩
   obtain ⟨vv, hvv⟩ : ∃ x, x = rs[k].2 := ⟨_, rfl⟩
   have hrk : rs[k] = (kk, vv) := by rw [hkk, hvv]
   rw [← hkk] at hx1'
   rw [← hvv] at hrow hvl
   rw [hrk] at htake
   obtain ⟨A1, c1, hus⟩ := rb_shape hrow
   obtain ⟨nv, hnv⟩ : ∃ nv, nv = vv.length := ⟨_, rfl⟩
   rw [← hnv] at hus
   subst hus
   obtain ⟨us, hus, ho, hf⟩ := hor
   have hul : us.length = k := by have h := congrArg List.length hus; rw [List.length_map, List.length_take] at h; omega
   have hcall := rowB_any kk (.slice A1 nv c1) vv (Wo.alloc (.cells #[.string kk, .slice A1 nv c1] 47)) (hrow.alloc _) hvl
   have HC1 := Lib.hid hcall
   have HT := Lib.hid htake
   have HUS := Lib.hid hus
   have HO := Lib.hid ho
   have HF := Lib.hid hf
   have HB := Lib.hid hbel
   have HUL := Lib.hid hul
   obtain ⟨Ao, co, rfl, _⟩ := own_shape ho
   have hsz := hbel.size
   have q1 : (0 : Int) ≤ (k : Int) := by omega
   have q2 : (k : Int) < rs.length := by omega
   clear hx1 hy1 hr1 hcall htake hus ho hf hbel hrow hkk hvv hrk hnv hvl hul
   go_wp2_with fail
   refine HC1.out.mono ?_
   rintro e w3 ⟨u3, rfl, hfb3, hbel3⟩
   obtain ⟨A3, c3, rfl⟩ := hfb3.shape
   have b1 : Below Wo.heap.size Wo w3 := ((Below.refl _ _).alloc (Nat.le_refl _) _).trans (hbel3.mono (by simp))
   have b2 : Below Wo.heap.size Wo (w3.alloc (.cells #[.string kk, .slice A3 vv.length c3] 47)) := b1.alloc b1.size _
   have ho5 := own_below HO.out b2
   have hf5 : ∀ x ∈ us, FB 5 (w3.alloc (.cells #[.string kk, .slice A3 vv.length c3] 47)) w.heap.size x.2.2 x.2.1 := fun x hx => (HF.out x hx).below b2
   have hu5 : FB 5 (w3.alloc (.cells #[.string kk, .slice A3 vv.length c3] 47)) w.heap.size (.slice A3 vv.length c3) vv := (hfb3.base_ (by simp; omega)).below ((Below.refl _ _).alloc (Nat.le_refl _) _)
   have hb5 := HB.out.trans (b2.mono hsz)
   have hsz3 := b1.size
   have HF5 := Lib.hid hf5
   have HU5 := Lib.hid hu5
   clear hfb3 hbel3 b1 b2 hf5 hu5
   go_wp2_with (at_builtin; refine wpList_own rfl (.tmp 19) (.tmp 25) 40 40 rfl w.heap.size 47 (.agg #[.string ⟨#[]⟩, .slice none 0 0]) 2 40 Try.underlying40 info47 rfl rfl ho5 rfl (src_two _ (by simp) Try.underlying40 47 _ _ rfl rfl) hb5 (Nat.le_refl _) ?_ ?_ ?_ ?_)
   ·have := HUL.out; unfold maxLen; omega
   ·have := HUL.out; omega
   ·simp; omega
   intro v6 w6 ho6 hb6 hg6
   have hor6 := OR.push (by decide) ho5 HF5.out HU5.out ho6 hg6
   rw [HUS.out, ← HT.out] at hor6
   have HO6 := Lib.hid hor6
   have HB6 := Lib.hid hb6
   clear ho5 ho6 hg6 hor6 hb6 hb5
   go_wp2
   go_roundw
   case rel => exact ⟨k + 1, by omega, by go_num, HO6.out, HB6.out⟩
   case measure => simp [intOf]; omega
  ·obtain rfl : k = rs.length := by omega
   rw [List.take_length] at hor
   obtain ⟨Ao, co, rfl⟩ := or_shape hor
   have hsz := hbel.size
   have HSF := Lib.hid (sortedF_any _ rs Wo hor.rr HS.out (by omega))
   have HO := Lib.hid hor
   have HB := Lib.hid hbel
   clear hor hbel
   go_wp2_with fail
   refine HSF.out.mono ?_
   rintro e w2 ⟨rfl, hb2⟩
   have HO2 := Lib.hid (HO.out.below hb2)
   have HB2 := Lib.hid (HB.out.trans (hb2.mono hsz))
   clear hb2 HSF HO HB
   go_wp2
   go_loopw [5, 32] (fun ov i wr => ∃ k : Nat, k ≤ cs.length ∧ i = .int .i64 k ∧ OR 5 47 wr w.heap.size ov (applyL rs (cs.take k)) ∧ Below w.heap.size w wr) (fun _ i _ => cs.length - (intOf i).toNat)
   case atStart => exact ⟨0, Nat.zero_le _, rfl, HO2.out, HB2.out⟩
   case round =>
    clear HO2 HB2
    obtain ⟨k, hk, rfl, hor, hbel⟩ := hrel
    obtain ⟨Wp, hWp⟩ : ∃ x, x = wr := ⟨_, rfl⟩
    subst hWp
    have hal := applyL_len rs (cs.take k)
    rw [List.length_take] at hal
    by_cases hlt : k < cs.length
    ·skip
     obtain ⟨b, off, uv, rfl, hx, hy, hr, hz⟩ := rc_at HC.out hlt
     have hbw : b < w.heap.size := block_lt_of_cell hx
     have hstep := applyL_take (l := rs) hlt
     have hsrt := applyL_sorted (cs := cs.take k) HS.out
     have hcv := HCL.out cs[k] (List.getElem_mem hlt)
     obtain ⟨acc, hacc⟩ : ∃ acc, acc = applyL rs (cs.take k) := ⟨_, rfl⟩
     rw [← hacc] at hor hal hstep hsrt
     obtain ⟨kk, hkk⟩ : ∃ x, x = cs[k].1 := ⟨_, rfl⟩
     obtain ⟨vv, hvv⟩ : ∃ x, x = cs[k].2.1 := ⟨_, rfl⟩
     obtain ⟨gg, hgg⟩ : ∃ x, x = cs[k].2.2 := ⟨_, rfl⟩
     have hck : cs[k] = (kk, vv, gg) := by rw [hkk, hvv, hgg]
     rw [← hkk] at hx
     rw [← hvv] at hr hcv
     rw [← hgg] at hz
     rw [hck] at hstep
     have hx' := (hbel.cell (p := ⟨b, off + k * 3, none⟩) hbw).trans hx
     have hy' := (hbel.cell (p := ⟨b, off + k * 3 + 1, none⟩) hbw).trans hy
     have hz' := (hbel.cell (p := ⟨b, off + k * 3 + 2, none⟩) hbw).trans hz
     have hrp := hr.below hbel
     obtain ⟨A1, c1, hus⟩ := rb_shape hr
     obtain ⟨nv, hnv⟩ : ∃ nv, nv = vv.length := ⟨_, rfl⟩
     rw [← hnv] at hus
     subst hus
     obtain ⟨Ap, cp, rfl⟩ := or_shape hor
     have hszp := hbel.size
     have b1 : Below Wp.heap.size Wp (Wp.alloc (.cells #[.string kk, .slice A1 nv c1, .bool gg] 33)) := (Below.refl _ _).alloc (Nat.le_refl _) _
     have hhalve := halve_any (.slice Ap acc.length cp) acc kk (Wp.alloc (.cells #[.string kk, .slice A1 nv c1, .bool gg] 33)) (hor.below b1).rr hsrt (by omega)
     have hpl := posL_le kk acc
     have hlt1 := @has_lt acc kk
     have st1 := @step_out acc kk vv hsrt
     have st2 := @step_none acc kk vv hsrt
     have st3 := @step_set acc kk vv hsrt
     have st4 := @step_ins acc kk vv hsrt
     obtain ⟨p, hp⟩ : ∃ p, p = posL kk acc := ⟨_, rfl⟩
     obtain ⟨hh, hhe⟩ : ∃ hh, hh = hasL kk acc := ⟨_, rfl⟩
     rw [← hp] at hhalve hpl hlt1 st1 st3 st4
     rw [← hhe] at hhalve hlt1 st1 st2 st3 st4
     have HH := Lib.hid hhalve
     have HST := Lib.hid hstep
     have HO := Lib.hid (hor.below b1)
     have HB := Lib.hid (hbel.trans (b1.mono hszp))
     have HR := Lib.hid (hrp.below b1)
     have hbx : ∀ i, (Wp.alloc (.cells #[.string kk, .slice A1 nv c1, .bool gg] 33)).cell? ⟨Wp.heap.size, i, none⟩ = (#[.string kk, .slice A1 nv c1, .bool gg] : Array Value)[i]? := fun i => cell_of_row _ _ i _ 33 (0, 0) (World.alloc_heap_new Wp _)
     have hb0 := hbx 0
     have hb1 := hbx 1
     have hb2 := hbx 2
     simp only [List.getElem?_toArray, List.getElem?_cons_zero, List.getElem?_cons_succ] at hb0 hb1 hb2
     have hWs : (Wp.alloc (.cells #[.string kk, .slice A1 nv c1, .bool gg] 33)).heap.size = Wp.heap.size + 1 := World.size_alloc _ _
     have q1 : (0 : Int) ≤ (k : Int) := by omega
     have q2 : (k : Int) < cs.length := by omega
     clear hhalve hstep hor hbel hrp hr hx hy hz hkk hvv hgg hck hacc hnv b1 hbx hsrt
     go_wp2_with fail
     obtain ⟨B, hB⟩ : ∃ B, B = Wp.heap.size := ⟨_, rfl⟩
     rw [← hB] at hb0 hb1 hb2 hWs hszp ⊢
     generalize Wp.alloc (.cells #[.string kk, .slice A1 nv c1, .bool gg] 33) = W1 at *
     clear hx' hy' hz' hB
     refine HH.out.mono ?_
     rintro e w3 ⟨rfl, hb3⟩
     have ha0 := (hb3.cell (p := ⟨B, 0, none⟩) (by show B < W1.heap.size; omega)).trans hb0
     have ha1 := (hb3.cell (p := ⟨B, 1, none⟩) (by show B < W1.heap.size; omega)).trans hb1
     have ha2 := (hb3.cell (p := ⟨B, 2, none⟩) (by show B < W1.heap.size; omega)).trans hb2
     have HO3 := Lib.hid (HO.out.below hb3)
     have HB3 := Lib.hid (HB.out.trans (hb3.mono (by omega)))
     have HR3 := Lib.hid (HR.out.below hb3)
     have hsz3 := HB3.out.size
     clear hb3 HO HB HR HH hb0 hb1 hb2
     cases gg with
     | true =>
      cases hh with
      | true =>
       have hlt2 := hlt1 rfl
       have hE := HST.out.trans (st1 rfl)
       have hD := delete_any w.heap.size p _ acc w3 HO3.out hlt2
       obtain ⟨na, hna⟩ : ∃ na, na = acc.take p ++ acc.drop (p + 1) := ⟨_, rfl⟩
       rw [← hna] at hE hD
       have E := Lib.hid hE
       have HD := Lib.hid hD
       clear hE hD hna
       clear hhe hp hlt1 st1 st2 st3 st4 HST
       go_wp2_with fail
       refine HD.out.mono ?_
       rintro e w4 ⟨v4, rfl, ho4, hb4⟩
       obtain ⟨A4, c4, rfl⟩ := or_shape ho4
       have HO4 := Lib.hid ho4
       have HB4 := Lib.hid (HB3.out.trans hb4)
       clear ho4 hb4 HD
       go_wp2
       go_roundw
       case rel => exact ⟨k + 1, by omega, by go_num, by rw [E.out]; exact HO4.out, HB4.out⟩
       case measure => simp [intOf]; omega
      | false =>
       have E := Lib.hid (HST.out.trans (st2 rfl))
       clear hhe hp hlt1 st1 st2 st3 st4 HST
       go_wp2
       go_roundw
       case rel => exact ⟨k + 1, by omega, by go_num, by rw [E.out]; exact HO3.out, HB3.out⟩
       case measure => simp [intOf]; omega
     | false =>
      have HRW := Lib.hid (rowB_any kk (.slice A1 nv c1) vv w3 HR3.out hcv)
      cases hh with
      | true =>
       have hlt2 := hlt1 rfl
       have E := Lib.hid (HST.out.trans (st3 rfl))
       clear hhe hp hlt1 st1 st2 st3 st4 HST
       go_wp2_with fail
       refine HRW.out.mono ?_
       rintro e w4 ⟨u4, rfl, hfb4, hb4⟩
       obtain ⟨A4, c4, rfl⟩ := hfb4.shape
       obtain ⟨g, cap, ux, hsh, hgl, hk0, hk1, _⟩ := or_row (HO3.out.below hb4) hlt2
       injection hsh with e1 _ e3
       subst e1
       subst e3
       have hor4 := HO3.out.below hb4
       have hf0 := or_frozen hor4 (p * 2)
       have hf1 := or_frozen hor4 (p * 2 + 1)
       have hu4 := hfb4.base_ (base' := w.heap.size) hsz3
       have hor5 := or_setR hor4 (by decide) rfl hlt2 (k := kk) hu4
       have hgb := or_base hor4
       have hb5 := ((HB3.out.trans (hb4.mono hsz3)).setCell hgb (p := ⟨g, p * 2, none⟩) (.string kk)).setCell hgb (p := ⟨g, p * 2 + 1, none⟩) (.slice A4 vv.length c4)
       have HO5 := Lib.hid hor5
       have HB5 := Lib.hid hb5
       have p1 : (0 : Int) ≤ (p : Int) := by omega
       have p2 : (p : Int) < acc.length := by omega
       clear hor4 hor5 hb5 hu4 hfb4 hb4 HRW
       go_wp2
       go_roundw
       case rel => exact ⟨k + 1, by omega, by go_num, by rw [E.out]; exact HO5.out, HB5.out⟩
       case measure => simp [intOf]; omega
      | false =>
       have hE := HST.out.trans (st4 rfl)
       clear hhe hp hlt1 st1 st2 st3 st4 HST
       go_wp2_with fail
       refine HRW.out.mono ?_
       rintro e w4 ⟨u4, rfl, hfb4, hb4⟩
       obtain ⟨A4, c4, rfl⟩ := hfb4.shape
       have b5 : Below w4.heap.size w4 (w4.alloc (.cells #[.string kk, .slice A4 vv.length c4] 47)) := (Below.refl _ _).alloc (Nat.le_refl _) _
       have hu4 := (hfb4.base_ (base' := w.heap.size) hsz3).below b5
       have hor4 := (HO3.out.below hb4).below b5
       have hbb := HB3.out.trans ((hb4.trans (b5.mono hb4.size)).mono hsz3)
       have hins := insert_any w.heap.size p w4.heap.size _ acc kk _ vv _ hor4 hpl (by omega) (World.alloc_heap_new w4 _) (fun g hg => by
        rcases hor4 with ⟨us, _, ho, _⟩
        have := (own_below_lt (HO3.out.below hb4) g hg)
        omega) hu4 hbb.size
       obtain ⟨na, hna⟩ : ∃ na, na = acc.take p ++ (kk, vv) :: acc.drop p := ⟨_, rfl⟩
       rw [← hna] at hE hins
       have E := Lib.hid hE
       have HI := Lib.hid hins
       clear hE hna
       have HBB := Lib.hid hbb
       clear hu4 hor4 hins hbb hfb4 hb4 b5 HRW
       go_wp2_with fail
       refine HI.out.mono ?_
       rintro e w5 ⟨v5, rfl, ho5, hb5⟩
       obtain ⟨A5, c5, rfl⟩ := or_shape ho5
       have HO5 := Lib.hid ho5
       have HB5 := Lib.hid (HBB.out.trans hb5)
       clear ho5 hb5 HI
       go_wp2
       go_roundw
       case rel => exact ⟨k + 1, by omega, by go_num, by rw [E.out]; exact HO5.out, HB5.out⟩
       case measure => simp [intOf]; omega
    ·obtain rfl : k = cs.length := by omega
     rw [List.take_length] at hor
     obtain ⟨Ap, cp, rfl⟩ := or_shape hor
     have HO3 := Lib.hid hor
     have HB3 := Lib.hid hbel
     clear hor hbel
     go_wp2
     go_ret
     exact ⟨_, rfl, HO3.out, HB3.out⟩
end Go.Proofs.Ytmbkaedhllfoeaa
