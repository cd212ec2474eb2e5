/-
  The walk of StateOrder.
-/
import Derived.Test.YtcmkmdghekkkhaaDoorTsLaw
import Derived.Test.YtcmkmdghekkkhaaDoorPsPut
import Derived.Test.YtcmkmdghekkkhaaDoorPsSame
import Derived.Test.YtcmkmdghekkkhaaDoorTkKnown
set_option linter.unusedVariables false
set_option linter.unusedSimpArgs false
namespace Go.Ts
theorem ord_mem (ids : List UInt8) : ∀ k, ∀ x ∈ ordS ids k, ∃ j, x = mkO ids j
  | 0, x, h => by cases h
  | k + 1, x, h => by
    unfold ordS at h
    rcases mem_put.1 h with rfl | ⟨h1, _⟩
    · exact ⟨k, rfl⟩
    · exact ord_mem ids k x h1
theorem ord_sized (ids : List UInt8) (k : Nat) : ∀ x ∈ ordS ids k, Sized x := fun x hx => by
  obtain ⟨j, rfl⟩ := ord_mem ids k x hx
  exact ⟨Nat.zero_le _, Nat.zero_le _⟩
theorem mkO_at {ids : List UInt8} {k : Nat} (h : k < ids.length) : mkO ids k = ⟨(ids[k].toNat : Int), [], [], [], (k : Int), 0, 0, [], [], []⟩ := by
  unfold mkO
  rw [List.getElem?_eq_getElem h]
  rfl
theorem sort_at {l : List Sub} (h : SortS l) {k : Nat} (hk : k + 1 < l.length) : l[k].id < l[k + 1].id := by
  unfold SortS at h
  exact List.pairwise_iff_getElem.1 h k (k + 1) (by omega) hk (by omega)
end Go.Ts
namespace Go.Proofs.YtcmkmdghekkkhaaDoor
open Go.RowKit Go.Rst Go.Tp Go.Ts Go.Tk
/-- What holds while subscriptions are put. -/
def OrdS (w : World) (cv : Value) (ids : List UInt8) (W : World) : Prop := RB W cv ids ∧ Below w.heap.size w W
set_option maxRecDepth 100000 in
set_option maxHeartbeats 8000000 in
theorem order_walk (cv : Value) (ids : List UInt8) (w : World) (hcv : RB w cv ids) (hlm : ids.length ≤ 140737488351232) (hp : Pow w) :
    Calls Tryd.prog 6 #[cv] w fun e w' => e = .returned (.bool true) ∧ Below w.heap.size w w' := by
  have HP := Lib.hid hp
  have HRB := Lib.hid hcv
  obtain ⟨A, c, rfl, hc1, hc2, _⟩ := hcv
  unfold maxLen at hc2
  clear hp
  by_cases hbig : 60 < ids.length
  · have q0 : (60 : Int) < (ids.length : Int) := by omega
    go_enter Tryd.func6, Tryd.ntmps6
    go_wp2_with fail
    refine (known_any _ HP.out).mono ?_
    rintro e w1 ⟨rfl, hb1⟩
    have HB1 := Lib.hid hb1
    clear hb1
    go_wp2
    go_ret
    exact ⟨rfl, HB1.out⟩
  have q0 : ¬ (60 : Int) < (ids.length : Int) := by omega
  have hsm : ids.length ≤ 60 := by omega
  obtain ⟨W0, hW0⟩ : ∃ W0, W0 = (w.alloc (.cells #[.int .i64 0, .int .i64 0, .int .i64 0, .slice none 0 0] 24)).setRow w.heap.size #[.int .i64 0, .int .i64 1, .int .i64 0, .slice none 0 0] := ⟨_, rfl⟩
  have HN := Lib.hid (Wh.new w [.int .i64 0, .int .i64 0, .int .i64 0, .slice none 0 0] 24)
  have HS0 := Lib.hid (show Wh W0 w.heap.size [.int .i64 0, .int .i64 1, .int .i64 0, .slice none 0 0] 24 by rw [hW0]; exact HN.out.set _)
  have HB0 := Lib.hid (show Below w.heap.size w W0 by rw [hW0]; exact below_setRow ((Below.refl _ w).alloc (Nat.le_refl _) _) (Nat.le_refl _) _)
  clear hbig
  go_enter Tryd.func6, Tryd.ntmps6
  go_wp2_with (refine wpList_store_row rfl 24 (.tmp 3) (.tmp 15) rfl w.heap.size #[.int .i64 0, .int .i64 1, .int .i64 0, .slice none 0 0] rfl rfl 24 #[.int .i64 0, .int .i64 0, .int .i64 0, .slice none 0 0] HN.out size24 rfl (st_all 0 1 0 rfl) ?_)
  rw [← hW0]
  clear hW0 HN
  go_loopw [4] (fun i wr => ∃ (k : Nat) (v : Value), k ≤ ids.length ∧ i = .int .i64 k ∧ Wh wr w.heap.size [.int .i64 0, .int .i64 1, .int .i64 0, v] 24 ∧ RS wr v (ordS ids k) ∧ Below w.heap.size w wr) (fun i _ => ids.length - (intOf i).toNat)
  case atStart => exact ⟨0, .slice none 0 0, Nat.zero_le _, rfl, HS0.out, RL.nil_ _ _ _ (by decide), HB0.out⟩
  case round =>
    obtain ⟨k, v, hk, rfl, hwh, hrs, hbel⟩ := hrel
    have HWH := Lib.hid hwh
    have HRS := Lib.hid hrs
    have HBL := Lib.hid hbel
    obtain ⟨A1, k1, rfl, hk1, hk1m⟩ := hrs.shape
    unfold maxLen at hk1m
    clear hwh hrs hbel
    by_cases hlt : k < ids.length
    · have q1 : (k : Int) < (ids.length : Int) := by omega
      obtain ⟨b, off, hA, hb, hcell⟩ := rb_cell HRB.out hlt
      obtain ⟨z, hz⟩ : ∃ z, z = ids[k] := ⟨_, rfl⟩
      rw [← hz] at hcell
      have HMK := Lib.hid (show mkO ids k = ⟨(z.toNat : Int), [], [], [], (k : Int), 0, 0, [], [], []⟩ by rw [mkO_at hlt, hz])
      have HLEN := Lib.hid (ord_len ids k)
      subst hA
      have hcell : w.cell? ⟨b, off + k, none⟩ = some (.int .u8 z.toNat) := hcell
      have e5 : IntKind.i64.wrap (z.toNat : Int) = (z.toNat : Int) := by have := z.toNat_lt; rw [IntKind.wrap_i64]; omega
      clear hz
      go_wp2_with fail
      refine wp_region_held_drew (S := OrdS w (.slice (some ⟨b, off, none⟩) ids.length c) ids) (by kernel_rfl) ⟨(HRB.out.below HBL.out).drew, HBL.out.drew⟩ (fun hHeld => ?_)
      have HWd := Lib.hid (HWH.out.below (Below.refl _ wr).drew)
      have HRd := Lib.hid (HRS.out.below stays_cs (Below.refl _ wr).drew)
      clear HWH HRS
      refine tkC 1 ?_
      refine tkC 2 ?_
      refine tkC 3 ?_
      refine tkA 4 (v := .int .u8 z.toNat) ?_ ?_
      · intro W hSw; have hq := (hSw.2.cell (p := ⟨b, off + k, none⟩) hb).trans hcell; go_simp; try (with_reducible rfl)
      try simp only [Act.put, zA, zB, zC]
      refine tkA 5 (v := .int .i64 z.toNat) ?_ ?_
      · intro W hSw; go_simp; try simp only [e5]; try (with_reducible rfl)
      try simp only [Act.put, zA, zB, zC]
      refine tkC 6 ?_
      refine tkC 7 ?_
      refine rdA (rs := [0]) (arC (i := 0) fun K hK => ?_)
      refine step_load_row rfl 24 (.tmp 3) rfl w.heap.size rfl 24 _ _ _ HWd.out Tryd.underlying24 rfl size24 ?_
      refine hK.out _ _ ?_ (fun _ => ?_)
      · exact hHeld
      clear hK K
      try simp only [Act.put, zA, zB, zC]
      have HPU := Lib.hid (putP_any 0 1 0 (.slice A1 (ordS ids k).length k1) (ordS ids k) ⟨(z.toNat : Int), [], [], [], (k : Int), 0, 0, [], [], []⟩ (.slice none 0 0) (.slice none 0 0) wr.drew HRd.out (ord_sized ids k) (by have := HLEN.out; omega) (RL.nil_ _ _ _ (by decide)) (RL.nil_ _ _ _ (by decide)) ⟨Nat.zero_le _, Nat.zero_le _⟩)
      simp only [stC, subC] at HPU
      refine rdA (rs := [8]) (arC (i := 8) fun K hK => ?_)
      go_simp
      refine HPU.out.mono ?_
      rintro e w5 ⟨v5, rfl, hon5, hb5⟩
      try (go_wp2_with fail)
      rw [← HMK.out] at hon5
      have hon6 : ON wr.drew.heap.size w5 v5 (ordS ids (k + 1)) := hon5
      have hrs5 := hon6.rs
      have hrs5 : RS w5 v5 (ordS ids (k + 1)) := hrs5
      have hHeld5 : OrdS w (.slice (some ⟨b, off, none⟩) ids.length c) ids w5 := ⟨hHeld.1.below hb5, hHeld.2.trans (hb5.mono hHeld.2.size)⟩
      have hwh5 := HWd.out.below hb5
      have HLT := Lib.hid HWd.out.lt
      refine hK.out _ _ ?_ (fun _ => ?_)
      · exact hHeld5
      clear hK K hHeld hon5 HPU HWd HRd hb5
      try simp only [Act.put, zA, zB, zC]
      obtain ⟨A5, k5, rfl, _⟩ := hrs5.shape
      refine rdA (rs := [9]) (arC (i := 9) fun K hK => ?_)
      have hb6 := below_setRow hHeld5.2 (Nat.le_refl _) #[.int .i64 0, .int .i64 1, .int .i64 0, .slice A5 (ordS ids (k + 1)).length k5]
      have hrs6 : RS (w5.setRow w.heap.size #[.int .i64 0, .int .i64 1, .int .i64 0, .slice A5 (ordS ids (k + 1)).length k5]) (.slice A5 (ordS ids (k + 1)).length k5) (ordS ids (k + 1)) := (hon6.kept (grown_row w5 w.heap.size _) (HLT.out) ⟨_, _, hwh5, by decide, by decide⟩).rs
      refine step_store_row rfl 24 (.tmp 3) (.tmp 30) rfl w.heap.size #[.int .i64 0, .int .i64 1, .int .i64 0, .slice A5 (ordS ids (k + 1)).length k5] rfl rfl 24 _ hwh5 size24 rfl (st_all 0 1 0 rfl) ?_
      have hHeld6 : OrdS w (.slice (some ⟨b, off, none⟩) ids.length c) ids (w5.setRow w.heap.size #[.int .i64 0, .int .i64 1, .int .i64 0, .slice A5 (ordS ids (k + 1)).length k5]) := ⟨HRB.out.below hb6, hb6⟩
      refine hK.out _ _ ?_ (fun _ => ?_)
      · exact hHeld6
      clear hK K
      try simp only [Act.put, zA, zB, zC]
      refine wpAnyH_done (by kernel_rfl) ?_ _
      have hwh6 := hwh5.set [.int .i64 0, .int .i64 1, .int .i64 0, .slice A5 (ordS ids (k + 1)).length k5]
      obtain ⟨W6, hW6⟩ : ∃ W6, W6 = w5.setRow w.heap.size #[.int .i64 0, .int .i64 1, .int .i64 0, .slice A5 (ordS ids (k + 1)).length k5] := ⟨_, rfl⟩
      rw [← hW6]
      have HREL := Lib.hid (show Wh W6 w.heap.size [.int .i64 0, .int .i64 1, .int .i64 0, .slice A5 (ordS ids (k + 1)).length k5] 24 ∧ RS W6 (.slice A5 (ordS ids (k + 1)).length k5) (ordS ids (k + 1)) ∧ Below w.heap.size w W6 by rw [hW6]; exact ⟨hwh6, hrs6, hb6⟩)
      clear hon6 hW6 hwh6 hrs6 hb6 hHeld5 hHeld6 hwh5 hrs5
      go_wp2
      go_roundw
      case rel => exact ⟨k + 1, _, by omega, by go_num, HREL.out⟩
      case measure => simp [intOf]; omega
    · have q1 : ¬ (k : Int) < (ids.length : Int) := by omega
      have hke : k = ids.length := by omega
      subst hke
      obtain ⟨W1, hW1⟩ : ∃ x, x = wr := ⟨_, rfl⟩
      subst hW1
      have hso := ord_sort ids ids.length
      have hla := ord_last ids ids.length
      have hfo := ord_found ids ids.length
      have hsz := ord_sized ids ids.length
      have hyl : (ordS ids ids.length).length ≤ 60 := Nat.le_trans (ord_len ids ids.length) hsm
      obtain ⟨ys, hys⟩ : ∃ ys, ys = ordS ids ids.length := ⟨_, rfl⟩
      rw [← hys] at HRS HWH hso hla hfo hsz hyl
      have HYS := Lib.hid hys
      have HSO := Lib.hid hso
      have HLA := Lib.hid hla
      have HFO := Lib.hid hfo
      have HSI := Lib.hid hsz
      have c3 := HWH.out.bx.cell (i := 3) (by simp)
      simp only [List.getElem_cons_succ, List.getElem_cons_zero] at c3
      have hl3 := HWH.out.lt
      clear hys hso hla hfo hsz hk hlt
      go_wp2_with fail
      go_loopw [5] (fun i wr => ∃ (k2 : Nat), k2 ≤ ys.length ∧ i = .int .i64 k2 ∧ Below W1.heap.size W1 wr) (fun i _ => ys.length - (intOf i).toNat)
      case atStart => exact ⟨0, Nat.zero_le _, rfl, Below.refl _ _⟩
      case round =>
        obtain ⟨k2, hk2, rfl, hbel2⟩ := hrel
        obtain ⟨W2, hW2⟩ : ∃ x, x = wr := ⟨_, rfl⟩
        subst hW2
        have c32 := (hbel2.cell (p := ⟨w.heap.size, 3, none⟩) hl3).trans c3
        have HB2 := Lib.hid hbel2
        clear hbel2
        by_cases hlt2 : k2 < ys.length
        · obtain ⟨g, off, av, qv, hA1, hg, hrg0, hra, hrq⟩ := rs_at HRS.out hlt2
          subst hA1
          have hrg := range_below hrg0 hg HB2.out
          have hgw2 := Nat.lt_of_lt_of_le hg HB2.out.size
          obtain ⟨x, hx⟩ : ∃ x, x = ys[k2] := ⟨_, rfl⟩
          have HLX := Lib.hid (fun j hj he => HLA.out x (by rw [hx]; exact List.getElem_mem hlt2) j hj he)
          have HXE := Lib.hid hx
          rw [← hx] at hrg hra hrq
          have hall2 := sub_all x (rl_one hra) (rl_one hrq)
          obtain ⟨Aa, ka, rfl, _, haM⟩ := (RL.shape hra)
          obtain ⟨Aq, kq, rfl, _, hqM⟩ := (RL.shape hrq)
          unfold maxLen at haM hqM
          have q2 : (k2 : Int) < (ys.length : Int) := by omega
          clear hrg0 hx hra hrq
          obtain ⟨xid, name, topic, want, lease, most, floor, acks, queue, note⟩ := x
          simp only [subC] at hrg hall2 HLX
          have HRG := Lib.hid hrg
          have HA2 := Lib.hid hall2
          have HNW := Lib.hid (Wh.new W2 [.int .i64 0, .string ⟨#[]⟩, .string ⟨#[]⟩, .string ⟨#[]⟩, .int .i64 0, .int .i64 0, .int .i64 0, .slice none 0 0, .slice none 0 0, .string ⟨#[]⟩] 35)
          obtain ⟨W5, hW5⟩ : ∃ W5, W5 = (W2.alloc (.cells #[.int .i64 0, .string ⟨#[]⟩, .string ⟨#[]⟩, .string ⟨#[]⟩, .int .i64 0, .int .i64 0, .int .i64 0, .slice none 0 0, .slice none 0 0, .string ⟨#[]⟩] 35)).setRow W2.heap.size #[.int .i64 xid, sv name, sv topic, sv want, .int .i64 lease, .int .i64 most, .int .i64 floor, .slice Aa acks.length ka, .slice Aq queue.length kq, sv note] := ⟨_, rfl⟩
          have hx5 : Wh W5 W2.heap.size [.int .i64 xid, sv name, sv topic, sv want, .int .i64 lease, .int .i64 most, .int .i64 floor, .slice Aa acks.length ka, .slice Aq queue.length kq, sv note] 35 := by rw [hW5]; exact HNW.out.set [.int .i64 xid, sv name, sv topic, sv want, .int .i64 lease, .int .i64 most, .int .i64 floor, .slice Aa acks.length ka, .slice Aq queue.length kq, sv note]
          have hb5 : Below W2.heap.size W2 W5 := by rw [hW5]; exact below_setRow ((Below.refl _ W2).alloc (Nat.le_refl _) _) (Nat.le_refl _) _
          have c35 := (hb5.cell (p := ⟨w.heap.size, 3, none⟩) (Nat.lt_of_lt_of_le hl3 HB2.out.size)).trans c32
          have d0 := hx5.bx.cell (i := 0) (by simp)
          have d4 := hx5.bx.cell (i := 4) (by simp)
          simp only [List.getElem_cons_succ, List.getElem_cons_zero] at d0 d4
          have hl5 := hx5.lt
          have hl35 := Nat.lt_of_lt_of_le (Nat.lt_of_lt_of_le hl3 HB2.out.size) hb5.size
          have HB5 := Lib.hid (HB2.out.trans (hb5.mono HB2.out.size))
          have HRB5 := Lib.hid (HRB.out.below (HBL.out.trans (HB5.out.mono HBL.out.size)))
          clear hx5 hrg hall2
          go_wp2_with (first
            | (refine wpList_load_midG (by rfl) 35 (.tmp 41) rfl g (off + k2 * 10) rfl _ _ HRG.out Tryd.underlying35 rfl size35 ?_)
            | (refine wpList_store_row rfl 35 (.tmp 6) (.tmp 42) rfl W2.heap.size #[.int .i64 xid, sv name, sv topic, sv want, .int .i64 lease, .int .i64 most, .int .i64 floor, .slice Aa acks.length ka, .slice Aq queue.length kq, sv note] rfl rfl 35 #[.int .i64 0, .string ⟨#[]⟩, .string ⟨#[]⟩, .string ⟨#[]⟩, .int .i64 0, .int .i64 0, .int .i64 0, .slice none 0 0, .slice none 0 0, .string ⟨#[]⟩] HNW.out size35 rfl HA2.out ?_))
          rw [← hW5]
          clear hW5 HNW HRG HA2
          have hb52 := hb5
          clear hb5
          cases k2 with
          | zero =>
            refine wp_region_held_drew (S := SB [W5]) (by kernel_rfl) (SB.start _) (fun hHeld => ?_)
            refine tkC 0 ?_
            refine tkA 1 (v := .bool false) ?_ ?_
            · intro W hSw; go_simp; try (with_reducible rfl)
            try simp only [Act.put, zA, zB, zC]
            refine tkC 2 ?_
            refine tkB 3 ?_
            refine tkB 4 ?_
            refine tkB 5 ?_
            refine tkB 6 ?_
            refine tkB 7 ?_
            refine tkB 8 ?_
            refine tkB 9 ?_
            refine tkB 10 ?_
            refine tkB 11 ?_
            refine tkB 12 ?_
            refine tkC 13 ?_
            refine wpAnyH_done (by kernel_rfl) ?_ _
            clear hHeld
            obtain ⟨Wd, hWd⟩ : ∃ x, x = W5.drew := ⟨_, rfl⟩
            have HDB := Lib.hid (show Below W5.heap.size W5 Wd by rw [hWd]; exact (Below.refl _ _).drew)
            rw [← hWd]
            clear hWd
            go_wp2_with fail
            go_loopw [7] (fun i wr => ∃ (j : Nat), j ≤ ids.length ∧ i = .int .i64 j ∧ Below W5.heap.size W5 wr) (fun i _ => ids.length - (intOf i).toNat)
            case atStart => exact ⟨0, Nat.zero_le _, rfl, HDB.out⟩
            case round =>
              obtain ⟨j, hj, rfl, hbel3⟩ := hrel
              obtain ⟨W6, hW6⟩ : ∃ x, x = wr := ⟨_, rfl⟩
              subst hW6
              have HB6 := Lib.hid hbel3
              clear hbel3
              by_cases hlt3 : j < ids.length
              · have q6 : (j : Int) < (ids.length : Int) := by omega
                obtain ⟨b, boff, hA, hb, hcell⟩ := rb_cell HRB5.out hlt3
                subst hA
                obtain ⟨z, hz⟩ : ∃ z, z = ids[j] := ⟨_, rfl⟩
                have hmi : (mkO ids j).id = (z.toNat : Int) := by rw [mkO_at hlt3, hz]
                rw [← hz] at hcell
                have hcell6 : W6.cell? ⟨b, boff + j, none⟩ = some (.int .u8 z.toNat) := (HB6.out.cell (p := ⟨b, boff + j, none⟩) hb).trans hcell
                have hb6 := Nat.lt_of_lt_of_le hb HB6.out.size
                have d06 := (HB6.out.cell (p := ⟨W2.heap.size, 0, none⟩) hl5).trans d0
                have d46 := (HB6.out.cell (p := ⟨W2.heap.size, 4, none⟩) hl5).trans d4
                have hl6 := Nat.lt_of_lt_of_le hl5 HB6.out.size
                have e5 : IntKind.i64.wrap (z.toNat : Int) = (z.toNat : Int) := by have := z.toNat_lt; rw [IntKind.wrap_i64]; omega
                clear hz hcell
                go_wp2_with fail
                refine wp_region_held_drew (S := SB [W6]) (by kernel_rfl) (SB.start _) (fun hHeld => ?_)
                refine tkC 0 ?_
                refine tkC 1 ?_
                refine tkC 2 ?_
                refine tkA 3 (v := .int .u8 z.toNat) ?_ ?_
                · intro W hSw; have hq := (SB.b0 hSw).cell (p := ⟨b, boff + j, none⟩) hb6 |>.trans hcell6; go_simp; try (with_reducible rfl)
                try simp only [Act.put, zA, zB, zC]
                refine tkA 4 (v := .int .i64 z.toNat) ?_ ?_
                · intro W hSw; go_simp; try simp only [e5]; try (with_reducible rfl)
                try simp only [Act.put, zA, zB, zC]
                refine tkC 5 ?_
                refine tkA 6 (v := .int .i64 xid) ?_ ?_
                · intro W hSw; have hq := (SB.b0 hSw).cell (p := ⟨W2.heap.size, 0, none⟩) hl6 |>.trans d06; go_simp; try (with_reducible rfl)
                try simp only [Act.put, zA, zB, zC]
                by_cases he : (z.toNat : Int) = xid
                · have hle := HLX.out j hlt3 (hmi.trans he)
                  have hle : (j : Int) ≤ lease := hle
                  refine tkA 7 (v := .bool true) ?_ ?_
                  · intro W hSw; go_simp; try simp [he]
                  try simp only [Act.put, zA, zB, zC]
                  refine tkC 8 ?_
                  refine tkC 9 ?_
                  refine tkC 10 ?_
                  refine tkA 11 (v := .int .i64 lease) ?_ ?_
                  · intro W hSw; have hq := (SB.b0 hSw).cell (p := ⟨W2.heap.size, 4, none⟩) hl6 |>.trans d46; go_simp; try (with_reducible rfl)
                  try simp only [Act.put, zA, zB, zC]
                  refine tkA 12 (v := .bool false) ?_ ?_
                  · intro W hSw; go_simp; try omega
                  try simp only [Act.put, zA, zB, zC]
                  refine tkC 13 ?_
                  refine wpAnyH_done (by kernel_rfl) ?_ _
                  clear hHeld hle he hmi d06 d46 hcell6
                  obtain ⟨W7, hW7⟩ : ∃ x, x = W6.drew := ⟨_, rfl⟩
                  have HB7 := Lib.hid (show Below W5.heap.size W5 W7 by rw [hW7]; exact HB6.out.drew)
                  rw [← hW7]
                  clear hW7
                  go_wp2
                  go_roundw
                  case rel => exact ⟨j + 1, by omega, by go_num, HB7.out⟩
                  case measure => simp [intOf]; omega
                · refine tkA 7 (v := .bool false) ?_ ?_
                  · intro W hSw; go_simp; try simp [he]
                  try simp only [Act.put, zA, zB, zC]
                  refine tkC 8 ?_
                  refine tkB 9 ?_
                  refine tkB 10 ?_
                  refine tkB 11 ?_
                  refine tkB 12 ?_
                  refine tkC 13 ?_
                  refine wpAnyH_done (by kernel_rfl) ?_ _
                  clear hHeld he hmi d06 d46 hcell6
                  obtain ⟨W7, hW7⟩ : ∃ x, x = W6.drew := ⟨_, rfl⟩
                  have HB7 := Lib.hid (show Below W5.heap.size W5 W7 by rw [hW7]; exact HB6.out.drew)
                  rw [← hW7]
                  clear hW7
                  go_wp2
                  go_roundw
                  case rel => exact ⟨j + 1, by omega, by go_num, HB7.out⟩
                  case measure => simp [intOf]; omega
              · have q6 : ¬ (j : Int) < (ids.length : Int) := by omega
                have HB7 := Lib.hid (HB5.out.trans (HB6.out.mono HB5.out.size))
                go_wp2
                go_roundw
                case rel => exact ⟨0 + 1, by omega, by go_num, HB7.out⟩
                case measure => simp [intOf]; omega
          | succ p =>
            have q3 : (0 : Int) < (p : Int) + 1 := by omega
            have q4 : (p : Int) < (ys.length : Int) := by omega
            have q5 : IntKind.i64.wrap ((p : Int) + 1 - 1) = (p : Int) := by rw [IntKind.wrap_i64]; omega
            have q7 : IntKind.i64.wrap (p : Int) = (p : Int) := by rw [IntKind.wrap_i64]; omega
            have hp' : p < ys.length := by omega
            obtain ⟨g', off', av', qv', hA', hg', hrg', hra', hrq'⟩ := rs_at HRS.out hp'
            injection hA' with hA'
            injection hA' with e1 e2 _
            subst e1
            subst e2
            have hc0 := (range_below (range_below hrg' hg' HB2.out) (Nat.lt_of_lt_of_le hg' HB2.out.size) hb52) 0 (.int .i64 ys[p].id) rfl
            rw [Nat.add_zero] at hc0
            have hid : ys[p].id < xid := by have := sort_at HSO.out hlt2; rw [← HXE.out] at this; exact this
            obtain ⟨pid, hpid⟩ : ∃ i, i = ys[p].id := ⟨_, rfl⟩
            rw [← hpid] at hc0 hid
            have hg5 := Nat.lt_of_lt_of_le (Nat.lt_of_lt_of_le hg' HB2.out.size) hb52.size
            clear hpid hrg' hra' hrq'
            refine wp_region_held_drew (S := SB [W5]) (by kernel_rfl) (SB.start _) (fun hHeld => ?_)
            refine tkC 0 ?_
            refine tkA 1 (v := .bool true) ?_ ?_
            · intro W hSw; go_simp; try (with_reducible rfl)
            try simp only [Act.put, zA, zB, zC]
            refine tkC 2 ?_
            refine tkC 3 ?_
            refine tkA 4 (v := ?_) ?_ ?_
            rotate_left
            · intro W hSw; have hq := (SB.b0 hSw).cell (p := ⟨w.heap.size, 3, none⟩) hl35 |>.trans c35; go_simp; try (with_reducible rfl)
            try simp only [Act.put, zA, zB, zC]
            refine tkC 5 ?_
            refine tkA 6 (v := .int .i64 p) ?_ ?_
            · intro W hSw; go_simp; try simp only [q5, q7]; try (with_reducible rfl)
            try simp only [Act.put, zA, zB, zC]
            refine tkC 7 ?_
            refine tkC 8 ?_
            refine tkA 9 (v := .int .i64 pid) ?_ ?_
            · intro W hSw; have hq := (SB.b0 hSw).cell (p := ⟨g, off + p * 10, none⟩) hg5 |>.trans hc0; go_simp; try (with_reducible rfl)
            try simp only [Act.put, zA, zB, zC]
            refine tkC 10 ?_
            refine tkA 11 (v := .int .i64 xid) ?_ ?_
            · intro W hSw; have hq := (SB.b0 hSw).cell (p := ⟨W2.heap.size, 0, none⟩) hl5 |>.trans d0; go_simp; try (with_reducible rfl)
            try simp only [Act.put, zA, zB, zC]
            refine tkA 12 (v := .bool false) ?_ ?_
            · intro W hSw; go_simp; try omega
            try simp only [Act.put, zA, zB, zC]
            refine tkC 13 ?_
            refine wpAnyH_done (by kernel_rfl) ?_ _
            clear hHeld hc0 hid
            obtain ⟨Wd, hWd⟩ : ∃ x, x = W5.drew := ⟨_, rfl⟩
            have HDB := Lib.hid (show Below W5.heap.size W5 Wd by rw [hWd]; exact (Below.refl _ _).drew)
            rw [← hWd]
            clear hWd
            go_wp2_with fail
            go_loopw [7] (fun i wr => ∃ (j : Nat), j ≤ ids.length ∧ i = .int .i64 j ∧ Below W5.heap.size W5 wr) (fun i _ => ids.length - (intOf i).toNat)
            case atStart => exact ⟨0, Nat.zero_le _, rfl, HDB.out⟩
            case round =>
              obtain ⟨j, hj, rfl, hbel3⟩ := hrel
              obtain ⟨W6, hW6⟩ : ∃ x, x = wr := ⟨_, rfl⟩
              subst hW6
              have HB6 := Lib.hid hbel3
              clear hbel3
              by_cases hlt3 : j < ids.length
              · have q6 : (j : Int) < (ids.length : Int) := by omega
                obtain ⟨b, boff, hA, hb, hcell⟩ := rb_cell HRB5.out hlt3
                subst hA
                obtain ⟨z, hz⟩ : ∃ z, z = ids[j] := ⟨_, rfl⟩
                have hmi : (mkO ids j).id = (z.toNat : Int) := by rw [mkO_at hlt3, hz]
                rw [← hz] at hcell
                have hcell6 : W6.cell? ⟨b, boff + j, none⟩ = some (.int .u8 z.toNat) := (HB6.out.cell (p := ⟨b, boff + j, none⟩) hb).trans hcell
                have hb6 := Nat.lt_of_lt_of_le hb HB6.out.size
                have d06 := (HB6.out.cell (p := ⟨W2.heap.size, 0, none⟩) hl5).trans d0
                have d46 := (HB6.out.cell (p := ⟨W2.heap.size, 4, none⟩) hl5).trans d4
                have hl6 := Nat.lt_of_lt_of_le hl5 HB6.out.size
                have e5 : IntKind.i64.wrap (z.toNat : Int) = (z.toNat : Int) := by have := z.toNat_lt; rw [IntKind.wrap_i64]; omega
                clear hz hcell
                go_wp2_with fail
                refine wp_region_held_drew (S := SB [W6]) (by kernel_rfl) (SB.start _) (fun hHeld => ?_)
                refine tkC 0 ?_
                refine tkC 1 ?_
                refine tkC 2 ?_
                refine tkA 3 (v := .int .u8 z.toNat) ?_ ?_
                · intro W hSw; have hq := (SB.b0 hSw).cell (p := ⟨b, boff + j, none⟩) hb6 |>.trans hcell6; go_simp; try (with_reducible rfl)
                try simp only [Act.put, zA, zB, zC]
                refine tkA 4 (v := .int .i64 z.toNat) ?_ ?_
                · intro W hSw; go_simp; try simp only [e5]; try (with_reducible rfl)
                try simp only [Act.put, zA, zB, zC]
                refine tkC 5 ?_
                refine tkA 6 (v := .int .i64 xid) ?_ ?_
                · intro W hSw; have hq := (SB.b0 hSw).cell (p := ⟨W2.heap.size, 0, none⟩) hl6 |>.trans d06; go_simp; try (with_reducible rfl)
                try simp only [Act.put, zA, zB, zC]
                by_cases he : (z.toNat : Int) = xid
                · have hle := HLX.out j hlt3 (hmi.trans he)
                  have hle : (j : Int) ≤ lease := hle
                  refine tkA 7 (v := .bool true) ?_ ?_
                  · intro W hSw; go_simp; try simp [he]
                  try simp only [Act.put, zA, zB, zC]
                  refine tkC 8 ?_
                  refine tkC 9 ?_
                  refine tkC 10 ?_
                  refine tkA 11 (v := .int .i64 lease) ?_ ?_
                  · intro W hSw; have hq := (SB.b0 hSw).cell (p := ⟨W2.heap.size, 4, none⟩) hl6 |>.trans d46; go_simp; try (with_reducible rfl)
                  try simp only [Act.put, zA, zB, zC]
                  refine tkA 12 (v := .bool false) ?_ ?_
                  · intro W hSw; go_simp; try omega
                  try simp only [Act.put, zA, zB, zC]
                  refine tkC 13 ?_
                  refine wpAnyH_done (by kernel_rfl) ?_ _
                  clear hHeld hle he hmi d06 d46 hcell6
                  obtain ⟨W7, hW7⟩ : ∃ x, x = W6.drew := ⟨_, rfl⟩
                  have HB7 := Lib.hid (show Below W5.heap.size W5 W7 by rw [hW7]; exact HB6.out.drew)
                  rw [← hW7]
                  clear hW7
                  go_wp2
                  go_roundw
                  case rel => exact ⟨j + 1, by omega, by go_num, HB7.out⟩
                  case measure => simp [intOf]; omega
                · refine tkA 7 (v := .bool false) ?_ ?_
                  · intro W hSw; go_simp; try simp [he]
                  try simp only [Act.put, zA, zB, zC]
                  refine tkC 8 ?_
                  refine tkB 9 ?_
                  refine tkB 10 ?_
                  refine tkB 11 ?_
                  refine tkB 12 ?_
                  refine tkC 13 ?_
                  refine wpAnyH_done (by kernel_rfl) ?_ _
                  clear hHeld he hmi d06 d46 hcell6
                  obtain ⟨W7, hW7⟩ : ∃ x, x = W6.drew := ⟨_, rfl⟩
                  have HB7 := Lib.hid (show Below W5.heap.size W5 W7 by rw [hW7]; exact HB6.out.drew)
                  rw [← hW7]
                  clear hW7
                  go_wp2
                  go_roundw
                  case rel => exact ⟨j + 1, by omega, by go_num, HB7.out⟩
                  case measure => simp [intOf]; omega
              · have q6 : ¬ (j : Int) < (ids.length : Int) := by omega
                have HB7 := Lib.hid (HB5.out.trans (HB6.out.mono HB5.out.size))
                go_wp2
                go_roundw
                case rel => exact ⟨p + 1 + 1, by omega, by go_num, HB7.out⟩
                case measure => simp [intOf]; omega
        · have q2 : ¬ (k2 : Int) < (ys.length : Int) := by omega
          clear hlt2 hk2
          go_wp2_with fail
          go_loopw [8] (fun i wr => ∃ (j : Nat), j ≤ ids.length ∧ i = .int .i64 j ∧ Below W1.heap.size W1 wr) (fun i _ => ids.length - (intOf i).toNat)
          case atStart => exact ⟨0, Nat.zero_le _, rfl, HB2.out⟩
          case round =>
            obtain ⟨j, hj, rfl, hbel3⟩ := hrel
            obtain ⟨W6, hW6⟩ : ∃ x, x = wr := ⟨_, rfl⟩
            subst hW6
            have HB6 := Lib.hid hbel3
            have HW6 := Lib.hid (HWH.out.below hbel3)
            have HR6 := Lib.hid (HRS.out.below stays_cs hbel3)
            have HBT6 := Lib.hid (HBL.out.trans (hbel3.mono HBL.out.size))
            clear hbel3
            by_cases hlt3 : j < ids.length
            · have q6 : (j : Int) < (ids.length : Int) := by omega
              obtain ⟨b, boff, hA, hb, hcell⟩ := rb_cell HRB.out hlt3
              subst hA
              obtain ⟨z, hz⟩ : ∃ z, z = ids[j] := ⟨_, rfl⟩
              have hmi : (mkO ids j).id = (z.toNat : Int) := by rw [mkO_at hlt3, hz]
              have hfd := HFO.out j hlt3
              rw [hmi] at hfd
              rw [← hz] at hcell
              have hcell6 : W6.cell? ⟨b, boff + j, none⟩ = some (.int .u8 z.toNat) := (HBT6.out.cell (p := ⟨b, boff + j, none⟩) hb).trans hcell
              have hb6 := Nat.lt_of_lt_of_le hb HBT6.out.size
              have e5 : IntKind.i64.wrap (z.toNat : Int) = (z.toNat : Int) := by have := z.toNat_lt; rw [IntKind.wrap_i64]; omega
              have HFI := Lib.hid (fun W (hW : Below W6.heap.size W6 W) => findP_any 0 1 0 (.slice A1 ys.length k1) ys z.toNat W (HR6.out.below stays_cs hW) HSI.out)
              obtain ⟨o, ho⟩ : ∃ o, o = findS ys (z.toNat : Int) := ⟨_, rfl⟩
              rw [← ho] at HFI hfd
              simp only [stC] at HFI
              obtain ⟨x, rfl⟩ : ∃ x, o = some x := by cases o with | none => cases hfd | some x => exact ⟨x, rfl⟩
              have hl6 := HW6.out.lt
              clear hz hcell ho hmi hfd
              go_wp2_with fail
              refine wp_region_held_drew (S := SB [W6]) (by kernel_rfl) (SB.start _) (fun hHeld => ?_)
              refine tkA 0 (v := .agg #[.int .i64 0, .int .i64 1, .int .i64 0, .slice A1 ys.length k1]) (fun W hSw => exec_load_mid 24 (.tmp 3) rfl w.heap.size 0 rfl _ _ (range_below HW6.out.range hl6 (SB.b0 hSw)) Tryd.underlying24 rfl size24) ?_
              try simp only [Act.put, zA, zB, zC]
              refine tkC 1 ?_
              refine tkC 2 ?_
              refine tkC 3 ?_
              refine tkA 4 (v := .int .u8 z.toNat) ?_ ?_
              · intro W hSw; have hq := (SB.b0 hSw).cell (p := ⟨b, boff + j, none⟩) hb6 |>.trans hcell6; go_simp; try (with_reducible rfl)
              try simp only [Act.put, zA, zB, zC]
              refine tkA 5 (v := .int .i64 z.toNat) ?_ ?_
              · intro W hSw; go_simp; try simp only [e5]; try (with_reducible rfl)
              try simp only [Act.put, zA, zB, zC]
              have hHeld0 := hHeld
              refine rdA (rs := [6, 10]) (arC2 (i := 6) (j := 10) (fun K hK => ?_) (fun K hK => ?_))
              · go_simp
                refine (HFI.out _ (SB.b0 hHeld)).mono ?_
                rintro e w7 ⟨a7, q7, rfl, hra7, hrq7, hb7⟩
                try (go_wp2_with fail)
                have hHeld7 := SB.step hHeld hb7
                refine hK.out _ _ ?_ (fun _ => ?_)
                · exact hHeld7
                clear hK K
                have hHeldP := hHeld
                clear hHeld
                have hHeld := hHeld7
                clear hHeld7
                have hall7 := sub_all x (rl_one hra7) (rl_one hrq7)
                obtain ⟨Ab, kb, rfl, _⟩ := RL.shape hra7
                obtain ⟨Qb, qb, rfl, _⟩ := RL.shape hrq7
                clear hra7 hrq7
                obtain ⟨xid, name, topic, want, lease, most, floor, acks, queue, note⟩ := x
                simp only [subC, Option.getD_some, Option.isSome_some] at hall7 ⊢
                try simp only [Act.put, zA, zB, zC]
                refine tkC 7 ?_
                refine tkC 8 ?_
                refine tkC 9 ?_
                refine rdA (rs := [10]) (arC (i := 10) fun K hK => ?_)
                have hal : Below w7.heap.size w7 (w7.alloc (.cells #[.int .i64 0, .string ⟨#[]⟩, .string ⟨#[]⟩, .string ⟨#[]⟩, .int .i64 0, .int .i64 0, .int .i64 0, .slice none 0 0, .slice none 0 0, .string ⟨#[]⟩] 35)) := (Below.refl _ _).alloc (Nat.le_refl _) _
                have HZ := Lib.hid (show Wh (w7.alloc (.cells #[.int .i64 0, .string ⟨#[]⟩, .string ⟨#[]⟩, .string ⟨#[]⟩, .int .i64 0, .int .i64 0, .int .i64 0, .slice none 0 0, .slice none 0 0, .string ⟨#[]⟩] 35)) w7.heap.size [.int .i64 0, .string ⟨#[]⟩, .string ⟨#[]⟩, .string ⟨#[]⟩, .int .i64 0, .int .i64 0, .int .i64 0, .slice none 0 0, .slice none 0 0, .string ⟨#[]⟩] 35 from Wh.new w7 [.int .i64 0, .string ⟨#[]⟩, .string ⟨#[]⟩, .string ⟨#[]⟩, .int .i64 0, .int .i64 0, .int .i64 0, .slice none 0 0, .slice none 0 0, .string ⟨#[]⟩] 35)
                have HGE := Lib.hid (show W6.heap.size ≤ w7.heap.size from (SB.b0 hHeld).size)
                have hHeld9 : SB [W6] (w7.alloc (.cells #[.int .i64 0, .string ⟨#[]⟩, .string ⟨#[]⟩, .string ⟨#[]⟩, .int .i64 0, .int .i64 0, .int .i64 0, .slice none 0 0, .slice none 0 0, .string ⟨#[]⟩] 35)) := SB.step hHeld hal
                go_simp
                refine hK.out _ _ ?_ (fun _ => ?_)
                · exact hHeld9
                clear hK K hHeld hal
                have hHeld := hHeld9
                clear hHeld9
                try simp only [Act.put, zA, zB, zC]
                refine rdA (rs := [11]) (arC (i := 11) fun K hK => ?_)
                refine step_store_row rfl 35 (.tmp 9) (.tmp 91) rfl w7.heap.size #[.int .i64 xid, sv name, sv topic, sv want, .int .i64 lease, .int .i64 most, .int .i64 floor, .slice Ab acks.length kb, .slice Qb queue.length qb, sv note] rfl rfl 35 _ HZ.out size35 rfl hall7 ?_
                have hHeld8 := SB.b0 hHeld
                have hb8 := below_setRow hHeld8 HGE.out #[.int .i64 xid, sv name, sv topic, sv want, .int .i64 lease, .int .i64 most, .int .i64 floor, .slice Ab acks.length kb, .slice Qb queue.length qb, sv note]
                refine hK.out _ _ ?_ (fun _ => ?_)
                · exact fun u hu => by obtain rfl : u = W6 := by simpa using hu
                                       exact hb8
                clear hK K
                try simp only [Act.put, zA, zB, zC]
                refine tkC 12 ?_
                refine wpAnyH_done (by kernel_rfl) ?_ _
                have HB9 := Lib.hid (HB6.out.trans (hb8.mono HB6.out.size))
                clear hb8 hHeld8 hHeld hHeld0 hHeldP hall7 HZ HGE
                go_wp2
                go_roundw
                case rel => exact ⟨j + 1, by omega, by go_num, HB9.out⟩
                case measure => simp [intOf]; omega
              · have hal : Below W6.drew.heap.size W6.drew (W6.drew.alloc (.cells #[.int .i64 0, .string ⟨#[]⟩, .string ⟨#[]⟩, .string ⟨#[]⟩, .int .i64 0, .int .i64 0, .int .i64 0, .slice none 0 0, .slice none 0 0, .string ⟨#[]⟩] 35)) := (Below.refl _ _).alloc (Nat.le_refl _) _
                have HZ := Lib.hid (show Wh ((W6.alloc (.cells #[.int .i64 0, .string ⟨#[]⟩, .string ⟨#[]⟩, .string ⟨#[]⟩, .int .i64 0, .int .i64 0, .int .i64 0, .slice none 0 0, .slice none 0 0, .string ⟨#[]⟩] 35)).drew) W6.heap.size [.int .i64 0, .string ⟨#[]⟩, .string ⟨#[]⟩, .string ⟨#[]⟩, .int .i64 0, .int .i64 0, .int .i64 0, .slice none 0 0, .slice none 0 0, .string ⟨#[]⟩] 35 from Wh.new W6.drew [.int .i64 0, .string ⟨#[]⟩, .string ⟨#[]⟩, .string ⟨#[]⟩, .int .i64 0, .int .i64 0, .int .i64 0, .slice none 0 0, .slice none 0 0, .string ⟨#[]⟩] 35)
                have HGE := Lib.hid (show W6.heap.size ≤ W6.heap.size from (SB.b0 hHeld).size)
                have hHeld9 : SB [W6] ((W6.alloc (.cells #[.int .i64 0, .string ⟨#[]⟩, .string ⟨#[]⟩, .string ⟨#[]⟩, .int .i64 0, .int .i64 0, .int .i64 0, .slice none 0 0, .slice none 0 0, .string ⟨#[]⟩] 35)).drew) := SB.step hHeld hal
                go_simp
                refine hK.out _ _ ?_ (fun _ => ?_)
                · exact hHeld9
                clear hK K hHeld hal
                have hHeld := hHeld9
                clear hHeld9
                try simp only [Act.put, zA, zB, zC]
                refine rdA (rs := [6]) (arC (i := 6) fun K hK => ?_)
                go_simp
                refine (HFI.out _ (SB.b0 hHeld)).mono ?_
                rintro e w7 ⟨a7, q7, rfl, hra7, hrq7, hb7⟩
                try (go_wp2_with fail)
                have hHeld7 := SB.step hHeld hb7
                refine hK.out _ _ ?_ (fun _ => ?_)
                · exact hHeld7
                clear hK K
                have hHeldP := hHeld
                clear hHeld
                have hHeld := hHeld7
                clear hHeld7
                have hall7 := sub_all x (rl_one hra7) (rl_one hrq7)
                obtain ⟨Ab, kb, rfl, _⟩ := RL.shape hra7
                obtain ⟨Qb, qb, rfl, _⟩ := RL.shape hrq7
                clear hra7 hrq7
                obtain ⟨xid, name, topic, want, lease, most, floor, acks, queue, note⟩ := x
                simp only [subC, Option.getD_some, Option.isSome_some] at hall7 ⊢
                try simp only [Act.put, zA, zB, zC]
                refine tkC 7 ?_
                refine tkC 8 ?_
                refine tkC 9 ?_
                have HZ2 := HZ.out.below hb7
                refine rdA (rs := [11]) (arC (i := 11) fun K hK => ?_)
                refine step_store_row rfl 35 (.tmp 9) (.tmp 91) rfl W6.heap.size #[.int .i64 xid, sv name, sv topic, sv want, .int .i64 lease, .int .i64 most, .int .i64 floor, .slice Ab acks.length kb, .slice Qb queue.length qb, sv note] rfl rfl 35 _ HZ2 size35 rfl hall7 ?_
                have hHeld8 := SB.b0 hHeld
                have hb8 := below_setRow hHeld8 HGE.out #[.int .i64 xid, sv name, sv topic, sv want, .int .i64 lease, .int .i64 most, .int .i64 floor, .slice Ab acks.length kb, .slice Qb queue.length qb, sv note]
                refine hK.out _ _ ?_ (fun _ => ?_)
                · exact fun u hu => by obtain rfl : u = W6 := by simpa using hu
                                       exact hb8
                clear hK K
                try simp only [Act.put, zA, zB, zC]
                refine tkC 12 ?_
                refine wpAnyH_done (by kernel_rfl) ?_ _
                have HB9 := Lib.hid (HB6.out.trans (hb8.mono HB6.out.size))
                clear hb8 hHeld8 hHeld hHeld0 hHeldP hall7 HZ HZ2 HGE
                go_wp2
                go_roundw
                case rel => exact ⟨j + 1, by omega, by go_num, HB9.out⟩
                case measure => simp [intOf]; omega
            · have q6 : ¬ (j : Int) < (ids.length : Int) := by omega
              have HSA := Lib.hid (fun W (hW : Below W6.heap.size W6 W) => sameS_any (c := 0) (n := 1) (l := 0) (c2 := 0) (n2 := 1) (l2 := 0) (HR6.out.below stays_cs hW) (HR6.out.below stays_cs hW))
              simp only [stC] at HSA
              go_wp2_with fail
              refine (known_any _ (HP.out.below HBT6.out)).mono ?_
              rintro e w8 ⟨rfl, hb8⟩
              have HR8 := Lib.hid (HW6.out.below hb8).range
              have HB8 := Lib.hid (HBT6.out.trans (hb8.mono HBT6.out.size))
              have HS8 := Lib.hid (HSA.out w8 hb8)
              clear hb8
              go_wp2_with (first
                | (refine wpList_load_midG (by rfl) 24 (.tmp 3) rfl w.heap.size 0 rfl _ _ HR8.out Tryd.underlying24 rfl size24 ?_))
              refine HS8.out.mono ?_
              rintro e w9 ⟨rfl, hb9⟩
              try simp only [and_self, decide_true]
              have HB9 := Lib.hid (HB8.out.trans (hb9.mono HB8.out.size))
              clear hb9
              go_wp2
              go_ret
              exact ⟨rfl, HB9.out⟩
end Go.Proofs.YtcmkmdghekkkhaaDoor
