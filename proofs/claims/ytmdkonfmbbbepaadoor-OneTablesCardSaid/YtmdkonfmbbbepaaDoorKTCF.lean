/-
  The statements' known (layer one): it is so.; The walk of OneTables.
-/
import Derived.Test.YtmdkonfmbbbepaaDoorKTCD
import Derived.Test.YtmdkonfmbbbepaaDoorKTCE
set_option linter.unusedVariables false
set_option linter.unusedVariables false
set_option linter.unusedSimpArgs false
namespace Go.Proofs.YtmdkonfmbbbepaaDoor
open Go.RowKit Go.Rst Go.Tp Go.Ts Go.Tk Go.Crc Go.On Go.Pg
theorem parts_ky (t : UInt8) (id s : Int) (ht : 97 ≤ t.toNat ∧ t.toNat ≤ 122) (hi : 0 ≤ id ∧ id ≤ 9999999999) (hs : 0 ≤ s ∧ s ≤ 9999999999) (W : World) (hp : Pow W) : Calls Tryd.prog 24 #[.string (ky t id s)] W (GivesPt (ky t id s) W) := by
  have hk : IsKey (ky t id s) (1, t, id.toNat, s.toNat) := ⟨by show (1 : Nat) < 10; decide, ht.1, ht.2, by show id.toNat ≤ _; omega, by show s.toNat ≤ _; omega, rfl⟩
  unfold GivesPt
  rw [keyD_spec hk]
  exact parts_any 1 t id.toNat s.toNat (by decide) ht.1 ht.2 (by omega) (by omega) W hp
theorem parts_rows {x : Ts.Sub} (h : BackOk x) {w : World} (hp : Pow w) : ∀ W, Below w.heap.size w W → ∀ r ∈ enc1L x, Calls Tryd.prog 24 #[.string r.1] W (GivesPt r.1 W) := by
  intro W hb r hr
  obtain ⟨t, s, h1, h2, h3, h4, h5, _⟩ := enc_rows h r hr
  rw [h5]
  exact parts_ky t x.id s ⟨h1, h2⟩ h.id ⟨h3, h4⟩ W (hp.below hb)
theorem decode_enc {x : Ts.Sub} (h : BackOk x) (ha : x.acks.length ≤ 1000) (hq : x.queue.length ≤ 1000) {v : Value} {W : World} (hv : RR W v (enc1L x)) (hp : Pow W) : Calls Tryd.prog 8 #[v] W (GivesDc W (some x)) := by
  have hl : (enc1L x).length ≤ 100000 := by
    unfold enc1L acksL noteL queL subL wantL extL
    have := List.length_filter_le extB x.queue
    simp only [List.length_append, List.length_map, List.length_cons, List.length_nil]
    split <;> split <;> simp <;> omega
  have := decode_any v (enc1L x) W hv hl hp (parts_rows h hp)
  rw [enc_dec h] at this
  exact this
set_option maxRecDepth 100000 in
set_option maxHeartbeats 8000000 in
theorem known12_any (w : World) (hp : Pow w) : Calls Tryd.prog 11 #[] w fun e w' => e = .returned (.bool true) ∧ Below w.heap.size w w' := by
  have HE := Lib.hid (encode_any k0S (.slice none 0 0) (.slice none 0 0) w (RL.nil_ _ _ _ (Nat.zero_le _)) (RL.nil_ _ _ _ (Nat.zero_le _)) (back_enc k0_back (by decide) (by decide)) hp)
  have HP := Lib.hid hp
  clear hp
  go_enter Tryd.func11, Tryd.ntmps11
  go_wp2_with fail
  refine HE.out.mono ?_
  rintro e w1 ⟨v1, rfl, hor, hb1⟩
  have hd := decode_enc k0_back (by decide) (by decide) (OR.rr hor) (HP.out.below hb1)
  obtain ⟨A1, c1, rfl⟩ := or_shape hor
  rw [k0_len] at hd ⊢
  have HD := Lib.hid hd
  have HB1 := Lib.hid hb1
  clear hd hor hb1
  go_wp2_with fail
  refine HD.out.mono ?_
  rintro e w2 ⟨y, av, qv, er, rfl, hra, hrq, hb2, hres⟩
  rcases hres with ⟨h, _⟩ | ⟨h, rfl⟩
  · cases h
  injection h with h
  subst h
  have HB2 := Lib.hid (HB1.out.trans (hb2.mono HB1.out.size))
  obtain ⟨C, hC⟩ : ∃ C, C = subC k0S av qv := ⟨_, rfl⟩
  have HCU := Lib.hid (show Cub C by rw [hC]; exact Cub.mk_ k0S (rl_one hra) (rl_one hrq))
  have HC0 := Lib.hid (show C[0]? = some (.int .i64 1) by rw [hC]; rfl)
  have HC1 := Lib.hid (show C[1]? = some (sv [110]) by rw [hC]; rfl)
  rw [← hC]
  clear hra hrq hb2 hC
  have HBX := Lib.hid (box_below w2 C)
  have HWX := Lib.hid (box_wh w2 C)
  have HD2 := Lib.hid (by have := decode_any (.slice none 0 0) [] (boxW w2 C) (rr_nil _) (by simp) (HP.out.below (HB2.out.trans (HBX.out.mono HB2.out.size))) (fun _ _ r hr => by cases hr); rw [dec_nil] at this; exact this)
  go_wp2_with (first | (refine wpList_store_row rfl 27 (.tmp 2) (.tmp 11) rfl w2.heap.size C.toArray rfl rfl 27 #[.int .i64 0, .string ⟨#[]⟩, .string ⟨#[]⟩, .string ⟨#[]⟩, .int .i64 0, .int .i64 0, .int .i64 0, .slice none 0 0, .slice none 0 0, .string ⟨#[]⟩] (box_old w2) HCU.out.info HCU.out.old HCU.out.all ?_; rw [box_def]))
  refine HD2.out.mono ?_
  rintro e w3 ⟨y, av3, qv3, er, rfl, hra3, hrq3, hb3, hres⟩
  rcases hres with ⟨_, rfl, rfl⟩ | ⟨h, _⟩
  case inr => cases h
  obtain ⟨D, hD⟩ : ∃ D, D = subC noSub av3 qv3 := ⟨_, rfl⟩
  have HDU := Lib.hid (show Cub D by rw [hD]; exact Cub.mk_ noSub (rl_one hra3) (rl_one hrq3))
  rw [← hD]
  have HW3 := Lib.hid ((HWX.out.below hb3).below (box_below w3 D))
  have d0 := wh_cell HW3.out HC0.out
  have d1 := wh_cell HW3.out HC1.out
  have HBE := Lib.hid (HB2.out.trans ((HBX.out.trans ((hb3.trans ((box_below w3 D).mono hb3.size)).mono HBX.out.size)).mono HB2.out.size))
  clear hra3 hrq3 hb3 hD
  go_wp2_with (first | (refine wpList_store_row rfl 27 (.tmp 4) (.tmp 15) rfl w3.heap.size D.toArray rfl rfl 27 #[.int .i64 0, .string ⟨#[]⟩, .string ⟨#[]⟩, .string ⟨#[]⟩, .int .i64 0, .int .i64 0, .int .i64 0, .slice none 0 0, .slice none 0 0, .string ⟨#[]⟩] (box_old w3) HDU.out.info HDU.out.old HDU.out.all ?_; rw [box_def]))
  go_ret
  exact ⟨rfl, HBE.out⟩
end Go.Proofs.YtmdkonfmbbbepaaDoor
set_option linter.unusedVariables false
set_option linter.unusedSimpArgs false
namespace Go.On
open Go Go.Rst Go.Tp Go.Ts Go.Tk
def upto (k : Nat) : List Int := (List.range k).map fun (j : Nat) => (j : Int) + 1
theorem upto_succ (k : Nat) : upto (k + 1) = upto k ++ [(k : Int) + 1] := by unfold upto; rw [List.range_succ, List.map_append]; rfl
theorem upto_len (k : Nat) : (upto k).length = k := by simp [upto]
theorem upto_mem (k : Nat) : ∀ n ∈ upto k, 0 ≤ n ∧ n ≤ k := by
  intro n hn
  obtain ⟨j, hj, rfl⟩ := List.mem_map.1 hn
  have := List.mem_range.1 hj
  omega
def tabS (n wa : Bool) (pr : Int) (k : Nat) : Sub := ⟨4, [110], [35], if wa then [97, 61, 49] else [], 1, 1, 0, upto k, [⟨99, [], [], 0, 0, false, [], pr⟩], if n then [110] else []⟩
theorem tabS_ok (n wa : Bool) (pr : Int) {k : Nat} (hk : k ≤ 20) : EncOk (tabS n wa pr k) := by
  refine ⟨by show (0 : Int) ≤ 4; decide, by show (4 : Int) ≤ 9999999999; decide, by show (1 : Nat) ≤ _; omega, by show (1 : Nat) ≤ _; omega, ?_, ?_, by show (upto k).length ≤ _; rw [upto_len]; omega, by show (1 : Nat) ≤ _; omega, fun m hm => by have := upto_mem k m hm; omega, fun m hm => ?_⟩
  · unfold tabS; cases wa <;> simp
  · unfold tabS; cases n <;> simp
  · rw [List.mem_singleton.1 hm]; simp
end Go.On
namespace Go.Proofs.YtmdkonfmbbbepaaDoor
open Go.RowKit Go.Rst Go.Tp Go.Ts Go.Tk Go.Crc Go.On Go.Pg
set_option maxRecDepth 100000 in
set_option maxHeartbeats 64000000 in
theorem tables_walk (n wa p : Bool) (ak : Nat) (w : World) (hk : ak ≤ 255) (hp : Pow w) :
    Calls Tryd.prog 5 #[.bool n, .bool wa, .bool p, .int .u8 ak] w fun e w' => e = .returned (.bool true) ∧ Below w.heap.size w w' := by
  have HP := Lib.hid hp
  obtain ⟨K, hK⟩ : ∃ K, K = ak % 20 := ⟨_, rfl⟩
  have hK19 : K ≤ 19 := by omega
  have t1 : ((ak : Int)).tmod 20 = (K : Int) := by rw [Int.tmod_eq_emod_of_nonneg (by omega)]; omega
  have hcv : ∀ W : World, (convert 5 3 (.int .u8 (K : Int))).run Tryd.prog W = .ok (.int .i64 (K : Int)) W := fun W => by
    have h := run_convert_int (P := Tryd.prog) (w := W) 5 3 .u8 (K : Int) (by kernel_rfl) (by kernel_rfl)
    have e : (Tryd.prog.intKind 3) = .i64 := by kernel_rfl
    rw [e, IntKind.wrap_i64, show ((K : Int) + 9223372036854775808) % 18446744073709551616 - 9223372036854775808 = (K : Int) by omega] at h
    exact h
  have HKE := Lib.hid hK
  have HKN := Lib.hid (fun W (h : Below w.heap.size w W) => known12_any W (HP.out.below h))
  clear hp hK hk
  go_enter Tryd.func5, Tryd.ntmps5
  cases n <;> cases wa <;> cases p
  · go_wp2_with fail
    generalize hA : World.alloc w _ = WA
    generalize hB1 : World.alloc WA _ = WB
    generalize hG : World.alloc WB _ = W3
    obtain ⟨qv, hqv⟩ : ∃ qv, qv = Value.slice (some ⟨w.heap.size + 1 + 1, 0, none⟩) 1 1 := ⟨_, rfl⟩
    have sA : WA.heap.size = w.heap.size + 1 := by rw [← hA]; simp
    have sB : WB.heap.size = w.heap.size + 1 + 1 := by rw [← hB1]; simp [sA]
    have hs3 : W3.heap.size = w.heap.size + 3 := by rw [← hG]; simp [sB]
    have hbA : Below w.heap.size w WA := by rw [← hA]; exact (Below.refl _ w).alloc (Nat.le_refl _) _
    have hbB : Below WA.heap.size WA WB := by rw [← hB1]; exact (Below.refl _ WA).alloc (Nat.le_refl _) _
    have hbC : Below WB.heap.size WB W3 := by rw [← hG]; exact (Below.refl _ WB).alloc (Nat.le_refl _) _
    have hwA : Wh WA w.heap.size (subC (tabS false false 0 0) (.slice none 0 0) qv) 27 := by rw [← hA, hqv]; exact Wh.new w _ _
    have hw3 : Wh W3 w.heap.size (subC (tabS false false 0 0) (.slice none 0 0) qv) 27 := (hwA.below hbB).below hbC
    have hb3 : Below w.heap.size w W3 := (hbA.trans (hbB.mono (by omega))).trans (hbC.mono (by omega))
    have hwm : Wh W3 WB.heap.size (msgC ⟨99, [], [], 0, 0, false, [], 0⟩) 45 := by rw [← hG]; exact Wh.new WB _ _
    have hq3 : RM W3 qv (tabS false false 0 0).queue := by
      rw [hqv, ← sB]
      refine ⟨_, 1, rfl, by decide, by decide, .inr ⟨WB.heap.size, 0, rfl, by omega, fun j hj => ?_⟩⟩
      have hj0 : j = 0 := by have : (tabS false false 0 0).queue.length = 1 := rfl; omega
      subst hj0
      refine ⟨_, rfl, fun i hi => ?_⟩
      have := hwm.bx.cell (i := i) hi
      simp only [Nat.zero_mul, Nat.zero_add]
      exact this
    obtain ⟨g, hg⟩ : ∃ g, g = w.heap.size := ⟨_, rfl⟩
    rw [← hg] at hw3 ⊢
    obtain ⟨B, hB⟩ : ∃ B, B = W3.heap.size := ⟨_, rfl⟩
    have HG := Lib.hid hg
    have HBB := Lib.hid (And.intro hB hs3)
    have HW3 := Lib.hid hw3
    have HQ3 := Lib.hid hq3
    have HB3 := Lib.hid hb3
    have HBX := Lib.hid (fun W (h : Ex (AB g B) W3 W) => hb3.trans (h.below (B := w.heap.size) (fun k hk => by unfold AB at hk; omega) (by omega)) : ∀ W (h : Ex (AB g B) W3 W), Below w.heap.size w W)
    have HQX := Lib.hid (fun W (h : Ex (AB g B) W3 W) => (by
      obtain ⟨A, c, h1, h2, h3, h4⟩ := hq3
      refine ⟨A, c, h1, h2, h3, ?_⟩
      rcases h4 with h4 | ⟨b, off, h5, h6, h7⟩
      · exact .inl h4
      · have hbe : b = w.heap.size + 1 + 1 := by rw [hqv] at h1; injection h1 with h1 _ _; rw [h5] at h1; injection h1 with h1; injection h1 with h1 _ _; exact h1.symm
        refine .inr ⟨b, off, h5, Nat.lt_of_lt_of_le h6 h.size, fun j hj => ?_⟩
        obtain ⟨cs, h8, h9⟩ := h7 j hj
        exact ⟨cs, h8, fun i hi => (World.cell?_of_block (a := ⟨b, off + j * 8 + i, none⟩) (h.block b h6 (by unfold AB; omega))).trans (h9 i hi)⟩) : ∀ W (h : Ex (AB g B) W3 W), RM W qv (tabS false false 0 0).queue)
    have HON := Lib.hid (show qv.oneCell' = true by rw [hqv]; rfl)
    clear hG hw3 hb3 hs3 hq3 hg hB hqv hA hB1 sA sB hbA hbB hbC hwA hwm
    go_loopw [12] (fun i wr => ∃ (k : Nat) (av : Value), k ≤ K ∧ i = .int .i64 k ∧ Wh wr g (subC (tabS false false 0 k) av qv) 27 ∧ OI B wr av (upto k) ∧ Ex (AB g B) W3 wr) (fun i _ => K - (intOf i).toNat)
    case atStart => exact ⟨0, .slice none 0 0, Nat.zero_le _, rfl, HW3.out, World.ownsRow_nil _ _ _ _, Ex.refl _ _⟩
    case round =>
      obtain ⟨k, av, hkK, rfl, hwr, hav, hex⟩ := hrel
      by_cases hlt : k < K
      · have q2 : (k : Int) < (K : Int) := by omega
        have HW := Lib.hid hwr
        have HA := Lib.hid (show wr.ownsRow B 3 1 av k ((upto k).map iv) by have h := hav; unfold OI at h; rw [upto_len] at h; exact h)
        obtain ⟨Aa, ca, rfl, _⟩ := own_shape HA.out
        have c7 := wh_cell hwr (i := 7) rfl
        have HEX := Lib.hid hex
        have hBs : B ≤ wr.heap.size := by rw [HBB.out.1]; exact hex.size
        have HBS := Lib.hid hBs
        have HSR := Lib.hid (fun (u : World) => src_cells (P := Tryd.prog) u rfl Tryd.underlying24 3 [.int .i64 ((k : Int) + 1)] (fun u hu => by simp at hu; subst hu; rfl))
        have HB0 := Lib.hid ((Below.refl B wr).alloc hBs (Obj.cells #[.int .i64 ((k : Int) + 1)] 3))
        clear hwr hav hex hBs
        go_wp2_with (at_builtin; refine wpList_own rfl (.tmp 38) (.tmp 41) 24 24 rfl B 3 _ 1 8 Tryd.underlying24 infoNum rfl rfl (HA.out.alloc _) rfl (HSR.out wr) HB0.out (Nat.le_refl _) ?_ ?_ ?_ ?_)
        · unfold maxLen; omega
        · omega
        · have := HBS.out; simp; omega
        · intro v8 w8 hown8 hbel8 hgr
          have hw8 : Wh w8 g (subC (tabS false false 0 k) (.slice Aa k ca) qv) 27 := wh_grown (HW.out.alloc _) (HA.out.alloc _) (by decide) hgr
          have ha8 : w8.ownsRow B 3 1 v8 (k + 1) ((upto (k + 1)).map iv) := by rw [upto_succ, List.map_append]; exact hown8
          have z78 := hw8.frozen 7
          have c78 := wh_cell hw8 (i := 7) rfl
          obtain ⟨A8, k8, rfl, _⟩ := own_shape ha8
          have hex8 : Ex (AB g B) wr w8 := ⟨hbel8.os, hbel8.tape, hbel8.output, hbel8.size, fun k hk hA => hbel8.block k (by unfold AB at hA; omega)⟩
          have H8 := Lib.hid hw8
          have HA8 := Lib.hid ha8
          have HX8 := Lib.hid (HEX.out.trans hex8)
          clear hw8 ha8 hex8 hown8 hbel8 hgr c7
          go_wp2
          go_roundw
          case rel =>
            have hgg := (ex_set H8.out 7 (.slice A8 (k + 1) k8)).grown
            exact ⟨k + 1, .slice A8 (k + 1) k8, by omega, by go_num, H8.out.set1 7 _, by have h := own_wh HA8.out H8.out (by decide) hgg; unfold OI; rw [upto_len]; exact h, HX8.out.trans ((ex_set H8.out 7 _).mono fun k _ hk => .inl hk)⟩
          case measure => simp [intOf]; omega
      · have hkk : k = K := by omega
        subst hkk
        have q2 : ¬ (k : Int) < (k : Int) := by omega
        have hra := OI.rl hav
        have hok := tabS_ok false false 0 (k := k) (by omega)
        have hbw := HBX.out _ hex
        obtain ⟨C, hC⟩ : ∃ C, C = subC (tabS false false 0 k) av qv := ⟨_, rfl⟩
        have HCU := Lib.hid (show Cub C by rw [hC]; exact Cub.mk_ _ (rl_one hra) HON.out)
        obtain ⟨N, hN⟩ : ∃ N, N = (enc1L (tabS false false 0 k)).length := ⟨_, rfl⟩
        have hNv : N = 2 + k := by rw [hN]; simp [enc1L, acksL, noteL, queL, subL, wantL, extL, extB, tabS, upto_len]; omega
        have q9 : ((N : Int) == (2 : Int) + (k : Int)) = true := by rw [hNv]; simp
        have HEN := Lib.hid (fun W (h : Below wr.heap.size wr W) => by
          have := encode_any (tabS false false 0 k) av qv W (hra.below stays_ci h) ((HQX.out _ hex).below stays_cm h) hok (HP.out.below (hbw.trans (h.mono hbw.size)))
          rw [← hC] at this
          exact this : ∀ W (h : Below wr.heap.size wr W), Calls Tryd.prog 7 #[.agg C.toArray] W (GivesRw W (enc1L (tabS false false 0 k))))
        rw [← hC] at hwr
        have HWR := Lib.hid hwr
        have HBW := Lib.hid hbw
        have HNN := Lib.hid hN
        clear hra hok hbw hC hwr hav hex hN hNv
        go_wp2_with fail
        refine (HKN.out _ HBW.out).mono ?_
        rintro e w5 ⟨rfl, hb5⟩
        have HW5 := Lib.hid (HWR.out.below hb5)
        have HB5 := Lib.hid hb5
        have HBW5 := Lib.hid (HBW.out.trans (hb5.mono HBW.out.size))
        clear hb5
        go_wp2_with (first | (refine wpList_load_midG (by rfl) 27 (.tmp 9) rfl g 0 rfl _ _ HW5.out.range Tryd.underlying27 rfl HCU.out.infoL ?_))
        refine (HEN.out _ HB5.out).mono ?_
        rintro e w6 ⟨v6, rfl, hor, hb6⟩
        obtain ⟨A6, c6, rfl⟩ := or_shape hor
        rw [← HNN.out]
        have HB6 := Lib.hid (HBW5.out.trans (hb6.mono HBW5.out.size))
        clear hor hb6
        go_wp2
        go_ret
        exact ⟨rfl, HB6.out⟩
  · go_wp2_with fail
    generalize hA : World.alloc w _ = WA
    generalize hB1 : World.alloc WA _ = WB
    generalize hG : World.alloc WB _ = W3
    obtain ⟨qv, hqv⟩ : ∃ qv, qv = Value.slice (some ⟨w.heap.size + 1 + 1, 0, none⟩) 1 1 := ⟨_, rfl⟩
    have sA : WA.heap.size = w.heap.size + 1 := by rw [← hA]; simp
    have sB : WB.heap.size = w.heap.size + 1 + 1 := by rw [← hB1]; simp [sA]
    have hs3 : W3.heap.size = w.heap.size + 3 := by rw [← hG]; simp [sB]
    have hbA : Below w.heap.size w WA := by rw [← hA]; exact (Below.refl _ w).alloc (Nat.le_refl _) _
    have hbB : Below WA.heap.size WA WB := by rw [← hB1]; exact (Below.refl _ WA).alloc (Nat.le_refl _) _
    have hbC : Below WB.heap.size WB W3 := by rw [← hG]; exact (Below.refl _ WB).alloc (Nat.le_refl _) _
    have hwA : Wh WA w.heap.size (subC (tabS false false 2 0) (.slice none 0 0) qv) 27 := by rw [← hA, hqv]; exact Wh.new w _ _
    have hw3 : Wh W3 w.heap.size (subC (tabS false false 2 0) (.slice none 0 0) qv) 27 := (hwA.below hbB).below hbC
    have hb3 : Below w.heap.size w W3 := (hbA.trans (hbB.mono (by omega))).trans (hbC.mono (by omega))
    have hwm : Wh W3 WB.heap.size (msgC ⟨99, [], [], 0, 0, false, [], 2⟩) 45 := by rw [← hG]; exact Wh.new WB _ _
    have hq3 : RM W3 qv (tabS false false 2 0).queue := by
      rw [hqv, ← sB]
      refine ⟨_, 1, rfl, by decide, by decide, .inr ⟨WB.heap.size, 0, rfl, by omega, fun j hj => ?_⟩⟩
      have hj0 : j = 0 := by have : (tabS false false 2 0).queue.length = 1 := rfl; omega
      subst hj0
      refine ⟨_, rfl, fun i hi => ?_⟩
      have := hwm.bx.cell (i := i) hi
      simp only [Nat.zero_mul, Nat.zero_add]
      exact this
    obtain ⟨g, hg⟩ : ∃ g, g = w.heap.size := ⟨_, rfl⟩
    rw [← hg] at hw3 ⊢
    obtain ⟨B, hB⟩ : ∃ B, B = W3.heap.size := ⟨_, rfl⟩
    have HG := Lib.hid hg
    have HBB := Lib.hid (And.intro hB hs3)
    have HW3 := Lib.hid hw3
    have HQ3 := Lib.hid hq3
    have HB3 := Lib.hid hb3
    have HBX := Lib.hid (fun W (h : Ex (AB g B) W3 W) => hb3.trans (h.below (B := w.heap.size) (fun k hk => by unfold AB at hk; omega) (by omega)) : ∀ W (h : Ex (AB g B) W3 W), Below w.heap.size w W)
    have HQX := Lib.hid (fun W (h : Ex (AB g B) W3 W) => (by
      obtain ⟨A, c, h1, h2, h3, h4⟩ := hq3
      refine ⟨A, c, h1, h2, h3, ?_⟩
      rcases h4 with h4 | ⟨b, off, h5, h6, h7⟩
      · exact .inl h4
      · have hbe : b = w.heap.size + 1 + 1 := by rw [hqv] at h1; injection h1 with h1 _ _; rw [h5] at h1; injection h1 with h1; injection h1 with h1 _ _; exact h1.symm
        refine .inr ⟨b, off, h5, Nat.lt_of_lt_of_le h6 h.size, fun j hj => ?_⟩
        obtain ⟨cs, h8, h9⟩ := h7 j hj
        exact ⟨cs, h8, fun i hi => (World.cell?_of_block (a := ⟨b, off + j * 8 + i, none⟩) (h.block b h6 (by unfold AB; omega))).trans (h9 i hi)⟩) : ∀ W (h : Ex (AB g B) W3 W), RM W qv (tabS false false 2 0).queue)
    have HON := Lib.hid (show qv.oneCell' = true by rw [hqv]; rfl)
    clear hG hw3 hb3 hs3 hq3 hg hB hqv hA hB1 sA sB hbA hbB hbC hwA hwm
    go_loopw [12] (fun i wr => ∃ (k : Nat) (av : Value), k ≤ K ∧ i = .int .i64 k ∧ Wh wr g (subC (tabS false false 2 k) av qv) 27 ∧ OI B wr av (upto k) ∧ Ex (AB g B) W3 wr) (fun i _ => K - (intOf i).toNat)
    case atStart => exact ⟨0, .slice none 0 0, Nat.zero_le _, rfl, HW3.out, World.ownsRow_nil _ _ _ _, Ex.refl _ _⟩
    case round =>
      obtain ⟨k, av, hkK, rfl, hwr, hav, hex⟩ := hrel
      by_cases hlt : k < K
      · have q2 : (k : Int) < (K : Int) := by omega
        have HW := Lib.hid hwr
        have HA := Lib.hid (show wr.ownsRow B 3 1 av k ((upto k).map iv) by have h := hav; unfold OI at h; rw [upto_len] at h; exact h)
        obtain ⟨Aa, ca, rfl, _⟩ := own_shape HA.out
        have c7 := wh_cell hwr (i := 7) rfl
        have HEX := Lib.hid hex
        have hBs : B ≤ wr.heap.size := by rw [HBB.out.1]; exact hex.size
        have HBS := Lib.hid hBs
        have HSR := Lib.hid (fun (u : World) => src_cells (P := Tryd.prog) u rfl Tryd.underlying24 3 [.int .i64 ((k : Int) + 1)] (fun u hu => by simp at hu; subst hu; rfl))
        have HB0 := Lib.hid ((Below.refl B wr).alloc hBs (Obj.cells #[.int .i64 ((k : Int) + 1)] 3))
        clear hwr hav hex hBs
        go_wp2_with (at_builtin; refine wpList_own rfl (.tmp 38) (.tmp 41) 24 24 rfl B 3 _ 1 8 Tryd.underlying24 infoNum rfl rfl (HA.out.alloc _) rfl (HSR.out wr) HB0.out (Nat.le_refl _) ?_ ?_ ?_ ?_)
        · unfold maxLen; omega
        · omega
        · have := HBS.out; simp; omega
        · intro v8 w8 hown8 hbel8 hgr
          have hw8 : Wh w8 g (subC (tabS false false 2 k) (.slice Aa k ca) qv) 27 := wh_grown (HW.out.alloc _) (HA.out.alloc _) (by decide) hgr
          have ha8 : w8.ownsRow B 3 1 v8 (k + 1) ((upto (k + 1)).map iv) := by rw [upto_succ, List.map_append]; exact hown8
          have z78 := hw8.frozen 7
          have c78 := wh_cell hw8 (i := 7) rfl
          obtain ⟨A8, k8, rfl, _⟩ := own_shape ha8
          have hex8 : Ex (AB g B) wr w8 := ⟨hbel8.os, hbel8.tape, hbel8.output, hbel8.size, fun k hk hA => hbel8.block k (by unfold AB at hA; omega)⟩
          have H8 := Lib.hid hw8
          have HA8 := Lib.hid ha8
          have HX8 := Lib.hid (HEX.out.trans hex8)
          clear hw8 ha8 hex8 hown8 hbel8 hgr c7
          go_wp2
          go_roundw
          case rel =>
            have hgg := (ex_set H8.out 7 (.slice A8 (k + 1) k8)).grown
            exact ⟨k + 1, .slice A8 (k + 1) k8, by omega, by go_num, H8.out.set1 7 _, by have h := own_wh HA8.out H8.out (by decide) hgg; unfold OI; rw [upto_len]; exact h, HX8.out.trans ((ex_set H8.out 7 _).mono fun k _ hk => .inl hk)⟩
          case measure => simp [intOf]; omega
      · have hkk : k = K := by omega
        subst hkk
        have q2 : ¬ (k : Int) < (k : Int) := by omega
        have hra := OI.rl hav
        have hok := tabS_ok false false 2 (k := k) (by omega)
        have hbw := HBX.out _ hex
        obtain ⟨C, hC⟩ : ∃ C, C = subC (tabS false false 2 k) av qv := ⟨_, rfl⟩
        have HCU := Lib.hid (show Cub C by rw [hC]; exact Cub.mk_ _ (rl_one hra) HON.out)
        obtain ⟨N, hN⟩ : ∃ N, N = (enc1L (tabS false false 2 k)).length := ⟨_, rfl⟩
        have hNv : N = 3 + k := by rw [hN]; simp [enc1L, acksL, noteL, queL, subL, wantL, extL, extB, tabS, upto_len]; omega
        have q9 : ((N : Int) == (3 : Int) + (k : Int)) = true := by rw [hNv]; simp
        have HEN := Lib.hid (fun W (h : Below wr.heap.size wr W) => by
          have := encode_any (tabS false false 2 k) av qv W (hra.below stays_ci h) ((HQX.out _ hex).below stays_cm h) hok (HP.out.below (hbw.trans (h.mono hbw.size)))
          rw [← hC] at this
          exact this : ∀ W (h : Below wr.heap.size wr W), Calls Tryd.prog 7 #[.agg C.toArray] W (GivesRw W (enc1L (tabS false false 2 k))))
        rw [← hC] at hwr
        have HWR := Lib.hid hwr
        have HBW := Lib.hid hbw
        have HNN := Lib.hid hN
        clear hra hok hbw hC hwr hav hex hN hNv
        go_wp2_with fail
        refine (HKN.out _ HBW.out).mono ?_
        rintro e w5 ⟨rfl, hb5⟩
        have HW5 := Lib.hid (HWR.out.below hb5)
        have HB5 := Lib.hid hb5
        have HBW5 := Lib.hid (HBW.out.trans (hb5.mono HBW.out.size))
        clear hb5
        go_wp2_with (first | (refine wpList_load_midG (by rfl) 27 (.tmp 9) rfl g 0 rfl _ _ HW5.out.range Tryd.underlying27 rfl HCU.out.infoL ?_))
        refine (HEN.out _ HB5.out).mono ?_
        rintro e w6 ⟨v6, rfl, hor, hb6⟩
        obtain ⟨A6, c6, rfl⟩ := or_shape hor
        rw [← HNN.out]
        have HB6 := Lib.hid (HBW5.out.trans (hb6.mono HBW5.out.size))
        clear hor hb6
        go_wp2
        go_ret
        exact ⟨rfl, HB6.out⟩
  · go_wp2_with fail
    generalize hA : World.alloc w _ = WA
    generalize hB1 : World.alloc WA _ = WB
    generalize hG : World.alloc WB _ = W3
    obtain ⟨qv, hqv⟩ : ∃ qv, qv = Value.slice (some ⟨w.heap.size + 1 + 1, 0, none⟩) 1 1 := ⟨_, rfl⟩
    have sA : WA.heap.size = w.heap.size + 1 := by rw [← hA]; simp
    have sB : WB.heap.size = w.heap.size + 1 + 1 := by rw [← hB1]; simp [sA]
    have hs3 : W3.heap.size = w.heap.size + 3 := by rw [← hG]; simp [sB]
    have hbA : Below w.heap.size w WA := by rw [← hA]; exact (Below.refl _ w).alloc (Nat.le_refl _) _
    have hbB : Below WA.heap.size WA WB := by rw [← hB1]; exact (Below.refl _ WA).alloc (Nat.le_refl _) _
    have hbC : Below WB.heap.size WB W3 := by rw [← hG]; exact (Below.refl _ WB).alloc (Nat.le_refl _) _
    have hwA : Wh WA w.heap.size (subC (tabS false true 0 0) (.slice none 0 0) qv) 27 := by rw [← hA, hqv]; exact Wh.new w _ _
    have hw3 : Wh W3 w.heap.size (subC (tabS false true 0 0) (.slice none 0 0) qv) 27 := (hwA.below hbB).below hbC
    have hb3 : Below w.heap.size w W3 := (hbA.trans (hbB.mono (by omega))).trans (hbC.mono (by omega))
    have hwm : Wh W3 WB.heap.size (msgC ⟨99, [], [], 0, 0, false, [], 0⟩) 45 := by rw [← hG]; exact Wh.new WB _ _
    have hq3 : RM W3 qv (tabS false true 0 0).queue := by
      rw [hqv, ← sB]
      refine ⟨_, 1, rfl, by decide, by decide, .inr ⟨WB.heap.size, 0, rfl, by omega, fun j hj => ?_⟩⟩
      have hj0 : j = 0 := by have : (tabS false true 0 0).queue.length = 1 := rfl; omega
      subst hj0
      refine ⟨_, rfl, fun i hi => ?_⟩
      have := hwm.bx.cell (i := i) hi
      simp only [Nat.zero_mul, Nat.zero_add]
      exact this
    obtain ⟨g, hg⟩ : ∃ g, g = w.heap.size := ⟨_, rfl⟩
    rw [← hg] at hw3 ⊢
    obtain ⟨B, hB⟩ : ∃ B, B = W3.heap.size := ⟨_, rfl⟩
    have HG := Lib.hid hg
    have HBB := Lib.hid (And.intro hB hs3)
    have HW3 := Lib.hid hw3
    have HQ3 := Lib.hid hq3
    have HB3 := Lib.hid hb3
    have HBX := Lib.hid (fun W (h : Ex (AB g B) W3 W) => hb3.trans (h.below (B := w.heap.size) (fun k hk => by unfold AB at hk; omega) (by omega)) : ∀ W (h : Ex (AB g B) W3 W), Below w.heap.size w W)
    have HQX := Lib.hid (fun W (h : Ex (AB g B) W3 W) => (by
      obtain ⟨A, c, h1, h2, h3, h4⟩ := hq3
      refine ⟨A, c, h1, h2, h3, ?_⟩
      rcases h4 with h4 | ⟨b, off, h5, h6, h7⟩
      · exact .inl h4
      · have hbe : b = w.heap.size + 1 + 1 := by rw [hqv] at h1; injection h1 with h1 _ _; rw [h5] at h1; injection h1 with h1; injection h1 with h1 _ _; exact h1.symm
        refine .inr ⟨b, off, h5, Nat.lt_of_lt_of_le h6 h.size, fun j hj => ?_⟩
        obtain ⟨cs, h8, h9⟩ := h7 j hj
        exact ⟨cs, h8, fun i hi => (World.cell?_of_block (a := ⟨b, off + j * 8 + i, none⟩) (h.block b h6 (by unfold AB; omega))).trans (h9 i hi)⟩) : ∀ W (h : Ex (AB g B) W3 W), RM W qv (tabS false true 0 0).queue)
    have HON := Lib.hid (show qv.oneCell' = true by rw [hqv]; rfl)
    clear hG hw3 hb3 hs3 hq3 hg hB hqv hA hB1 sA sB hbA hbB hbC hwA hwm
    go_loopw [12] (fun i wr => ∃ (k : Nat) (av : Value), k ≤ K ∧ i = .int .i64 k ∧ Wh wr g (subC (tabS false true 0 k) av qv) 27 ∧ OI B wr av (upto k) ∧ Ex (AB g B) W3 wr) (fun i _ => K - (intOf i).toNat)
    case atStart => exact ⟨0, .slice none 0 0, Nat.zero_le _, rfl, HW3.out, World.ownsRow_nil _ _ _ _, Ex.refl _ _⟩
    case round =>
      obtain ⟨k, av, hkK, rfl, hwr, hav, hex⟩ := hrel
      by_cases hlt : k < K
      · have q2 : (k : Int) < (K : Int) := by omega
        have HW := Lib.hid hwr
        have HA := Lib.hid (show wr.ownsRow B 3 1 av k ((upto k).map iv) by have h := hav; unfold OI at h; rw [upto_len] at h; exact h)
        obtain ⟨Aa, ca, rfl, _⟩ := own_shape HA.out
        have c7 := wh_cell hwr (i := 7) rfl
        have HEX := Lib.hid hex
        have hBs : B ≤ wr.heap.size := by rw [HBB.out.1]; exact hex.size
        have HBS := Lib.hid hBs
        have HSR := Lib.hid (fun (u : World) => src_cells (P := Tryd.prog) u rfl Tryd.underlying24 3 [.int .i64 ((k : Int) + 1)] (fun u hu => by simp at hu; subst hu; rfl))
        have HB0 := Lib.hid ((Below.refl B wr).alloc hBs (Obj.cells #[.int .i64 ((k : Int) + 1)] 3))
        clear hwr hav hex hBs
        go_wp2_with (at_builtin; refine wpList_own rfl (.tmp 38) (.tmp 41) 24 24 rfl B 3 _ 1 8 Tryd.underlying24 infoNum rfl rfl (HA.out.alloc _) rfl (HSR.out wr) HB0.out (Nat.le_refl _) ?_ ?_ ?_ ?_)
        · unfold maxLen; omega
        · omega
        · have := HBS.out; simp; omega
        · intro v8 w8 hown8 hbel8 hgr
          have hw8 : Wh w8 g (subC (tabS false true 0 k) (.slice Aa k ca) qv) 27 := wh_grown (HW.out.alloc _) (HA.out.alloc _) (by decide) hgr
          have ha8 : w8.ownsRow B 3 1 v8 (k + 1) ((upto (k + 1)).map iv) := by rw [upto_succ, List.map_append]; exact hown8
          have z78 := hw8.frozen 7
          have c78 := wh_cell hw8 (i := 7) rfl
          obtain ⟨A8, k8, rfl, _⟩ := own_shape ha8
          have hex8 : Ex (AB g B) wr w8 := ⟨hbel8.os, hbel8.tape, hbel8.output, hbel8.size, fun k hk hA => hbel8.block k (by unfold AB at hA; omega)⟩
          have H8 := Lib.hid hw8
          have HA8 := Lib.hid ha8
          have HX8 := Lib.hid (HEX.out.trans hex8)
          clear hw8 ha8 hex8 hown8 hbel8 hgr c7
          go_wp2
          go_roundw
          case rel =>
            have hgg := (ex_set H8.out 7 (.slice A8 (k + 1) k8)).grown
            exact ⟨k + 1, .slice A8 (k + 1) k8, by omega, by go_num, H8.out.set1 7 _, by have h := own_wh HA8.out H8.out (by decide) hgg; unfold OI; rw [upto_len]; exact h, HX8.out.trans ((ex_set H8.out 7 _).mono fun k _ hk => .inl hk)⟩
          case measure => simp [intOf]; omega
      · have hkk : k = K := by omega
        subst hkk
        have q2 : ¬ (k : Int) < (k : Int) := by omega
        have hra := OI.rl hav
        have hok := tabS_ok false true 0 (k := k) (by omega)
        have hbw := HBX.out _ hex
        obtain ⟨C, hC⟩ : ∃ C, C = subC (tabS false true 0 k) av qv := ⟨_, rfl⟩
        have HCU := Lib.hid (show Cub C by rw [hC]; exact Cub.mk_ _ (rl_one hra) HON.out)
        obtain ⟨N, hN⟩ : ∃ N, N = (enc1L (tabS false true 0 k)).length := ⟨_, rfl⟩
        have hNv : N = 3 + k := by rw [hN]; simp [enc1L, acksL, noteL, queL, subL, wantL, extL, extB, tabS, upto_len]; omega
        have q9 : ((N : Int) == (3 : Int) + (k : Int)) = true := by rw [hNv]; simp
        have HEN := Lib.hid (fun W (h : Below wr.heap.size wr W) => by
          have := encode_any (tabS false true 0 k) av qv W (hra.below stays_ci h) ((HQX.out _ hex).below stays_cm h) hok (HP.out.below (hbw.trans (h.mono hbw.size)))
          rw [← hC] at this
          exact this : ∀ W (h : Below wr.heap.size wr W), Calls Tryd.prog 7 #[.agg C.toArray] W (GivesRw W (enc1L (tabS false true 0 k))))
        rw [← hC] at hwr
        have HWR := Lib.hid hwr
        have HBW := Lib.hid hbw
        have HNN := Lib.hid hN
        clear hra hok hbw hC hwr hav hex hN hNv
        go_wp2_with fail
        refine (HKN.out _ HBW.out).mono ?_
        rintro e w5 ⟨rfl, hb5⟩
        have HW5 := Lib.hid (HWR.out.below hb5)
        have HB5 := Lib.hid hb5
        have HBW5 := Lib.hid (HBW.out.trans (hb5.mono HBW.out.size))
        clear hb5
        go_wp2_with (first | (refine wpList_load_midG (by rfl) 27 (.tmp 9) rfl g 0 rfl _ _ HW5.out.range Tryd.underlying27 rfl HCU.out.infoL ?_))
        refine (HEN.out _ HB5.out).mono ?_
        rintro e w6 ⟨v6, rfl, hor, hb6⟩
        obtain ⟨A6, c6, rfl⟩ := or_shape hor
        rw [← HNN.out]
        have HB6 := Lib.hid (HBW5.out.trans (hb6.mono HBW5.out.size))
        clear hor hb6
        go_wp2
        go_ret
        exact ⟨rfl, HB6.out⟩
  · go_wp2_with fail
    generalize hA : World.alloc w _ = WA
    generalize hB1 : World.alloc WA _ = WB
    generalize hG : World.alloc WB _ = W3
    obtain ⟨qv, hqv⟩ : ∃ qv, qv = Value.slice (some ⟨w.heap.size + 1 + 1, 0, none⟩) 1 1 := ⟨_, rfl⟩
    have sA : WA.heap.size = w.heap.size + 1 := by rw [← hA]; simp
    have sB : WB.heap.size = w.heap.size + 1 + 1 := by rw [← hB1]; simp [sA]
    have hs3 : W3.heap.size = w.heap.size + 3 := by rw [← hG]; simp [sB]
    have hbA : Below w.heap.size w WA := by rw [← hA]; exact (Below.refl _ w).alloc (Nat.le_refl _) _
    have hbB : Below WA.heap.size WA WB := by rw [← hB1]; exact (Below.refl _ WA).alloc (Nat.le_refl _) _
    have hbC : Below WB.heap.size WB W3 := by rw [← hG]; exact (Below.refl _ WB).alloc (Nat.le_refl _) _
    have hwA : Wh WA w.heap.size (subC (tabS false true 2 0) (.slice none 0 0) qv) 27 := by rw [← hA, hqv]; exact Wh.new w _ _
    have hw3 : Wh W3 w.heap.size (subC (tabS false true 2 0) (.slice none 0 0) qv) 27 := (hwA.below hbB).below hbC
    have hb3 : Below w.heap.size w W3 := (hbA.trans (hbB.mono (by omega))).trans (hbC.mono (by omega))
    have hwm : Wh W3 WB.heap.size (msgC ⟨99, [], [], 0, 0, false, [], 2⟩) 45 := by rw [← hG]; exact Wh.new WB _ _
    have hq3 : RM W3 qv (tabS false true 2 0).queue := by
      rw [hqv, ← sB]
      refine ⟨_, 1, rfl, by decide, by decide, .inr ⟨WB.heap.size, 0, rfl, by omega, fun j hj => ?_⟩⟩
      have hj0 : j = 0 := by have : (tabS false true 2 0).queue.length = 1 := rfl; omega
      subst hj0
      refine ⟨_, rfl, fun i hi => ?_⟩
      have := hwm.bx.cell (i := i) hi
      simp only [Nat.zero_mul, Nat.zero_add]
      exact this
    obtain ⟨g, hg⟩ : ∃ g, g = w.heap.size := ⟨_, rfl⟩
    rw [← hg] at hw3 ⊢
    obtain ⟨B, hB⟩ : ∃ B, B = W3.heap.size := ⟨_, rfl⟩
    have HG := Lib.hid hg
    have HBB := Lib.hid (And.intro hB hs3)
    have HW3 := Lib.hid hw3
    have HQ3 := Lib.hid hq3
    have HB3 := Lib.hid hb3
    have HBX := Lib.hid (fun W (h : Ex (AB g B) W3 W) => hb3.trans (h.below (B := w.heap.size) (fun k hk => by unfold AB at hk; omega) (by omega)) : ∀ W (h : Ex (AB g B) W3 W), Below w.heap.size w W)
    have HQX := Lib.hid (fun W (h : Ex (AB g B) W3 W) => (by
      obtain ⟨A, c, h1, h2, h3, h4⟩ := hq3
      refine ⟨A, c, h1, h2, h3, ?_⟩
      rcases h4 with h4 | ⟨b, off, h5, h6, h7⟩
      · exact .inl h4
      · have hbe : b = w.heap.size + 1 + 1 := by rw [hqv] at h1; injection h1 with h1 _ _; rw [h5] at h1; injection h1 with h1; injection h1 with h1 _ _; exact h1.symm
        refine .inr ⟨b, off, h5, Nat.lt_of_lt_of_le h6 h.size, fun j hj => ?_⟩
        obtain ⟨cs, h8, h9⟩ := h7 j hj
        exact ⟨cs, h8, fun i hi => (World.cell?_of_block (a := ⟨b, off + j * 8 + i, none⟩) (h.block b h6 (by unfold AB; omega))).trans (h9 i hi)⟩) : ∀ W (h : Ex (AB g B) W3 W), RM W qv (tabS false true 2 0).queue)
    have HON := Lib.hid (show qv.oneCell' = true by rw [hqv]; rfl)
    clear hG hw3 hb3 hs3 hq3 hg hB hqv hA hB1 sA sB hbA hbB hbC hwA hwm
    go_loopw [12] (fun i wr => ∃ (k : Nat) (av : Value), k ≤ K ∧ i = .int .i64 k ∧ Wh wr g (subC (tabS false true 2 k) av qv) 27 ∧ OI B wr av (upto k) ∧ Ex (AB g B) W3 wr) (fun i _ => K - (intOf i).toNat)
    case atStart => exact ⟨0, .slice none 0 0, Nat.zero_le _, rfl, HW3.out, World.ownsRow_nil _ _ _ _, Ex.refl _ _⟩
    case round =>
      obtain ⟨k, av, hkK, rfl, hwr, hav, hex⟩ := hrel
      by_cases hlt : k < K
      · have q2 : (k : Int) < (K : Int) := by omega
        have HW := Lib.hid hwr
        have HA := Lib.hid (show wr.ownsRow B 3 1 av k ((upto k).map iv) by have h := hav; unfold OI at h; rw [upto_len] at h; exact h)
        obtain ⟨Aa, ca, rfl, _⟩ := own_shape HA.out
        have c7 := wh_cell hwr (i := 7) rfl
        have HEX := Lib.hid hex
        have hBs : B ≤ wr.heap.size := by rw [HBB.out.1]; exact hex.size
        have HBS := Lib.hid hBs
        have HSR := Lib.hid (fun (u : World) => src_cells (P := Tryd.prog) u rfl Tryd.underlying24 3 [.int .i64 ((k : Int) + 1)] (fun u hu => by simp at hu; subst hu; rfl))
        have HB0 := Lib.hid ((Below.refl B wr).alloc hBs (Obj.cells #[.int .i64 ((k : Int) + 1)] 3))
        clear hwr hav hex hBs
        go_wp2_with (at_builtin; refine wpList_own rfl (.tmp 38) (.tmp 41) 24 24 rfl B 3 _ 1 8 Tryd.underlying24 infoNum rfl rfl (HA.out.alloc _) rfl (HSR.out wr) HB0.out (Nat.le_refl _) ?_ ?_ ?_ ?_)
        · unfold maxLen; omega
        · omega
        · have := HBS.out; simp; omega
        · intro v8 w8 hown8 hbel8 hgr
          have hw8 : Wh w8 g (subC (tabS false true 2 k) (.slice Aa k ca) qv) 27 := wh_grown (HW.out.alloc _) (HA.out.alloc _) (by decide) hgr
          have ha8 : w8.ownsRow B 3 1 v8 (k + 1) ((upto (k + 1)).map iv) := by rw [upto_succ, List.map_append]; exact hown8
          have z78 := hw8.frozen 7
          have c78 := wh_cell hw8 (i := 7) rfl
          obtain ⟨A8, k8, rfl, _⟩ := own_shape ha8
          have hex8 : Ex (AB g B) wr w8 := ⟨hbel8.os, hbel8.tape, hbel8.output, hbel8.size, fun k hk hA => hbel8.block k (by unfold AB at hA; omega)⟩
          have H8 := Lib.hid hw8
          have HA8 := Lib.hid ha8
          have HX8 := Lib.hid (HEX.out.trans hex8)
          clear hw8 ha8 hex8 hown8 hbel8 hgr c7
          go_wp2
          go_roundw
          case rel =>
            have hgg := (ex_set H8.out 7 (.slice A8 (k + 1) k8)).grown
            exact ⟨k + 1, .slice A8 (k + 1) k8, by omega, by go_num, H8.out.set1 7 _, by have h := own_wh HA8.out H8.out (by decide) hgg; unfold OI; rw [upto_len]; exact h, HX8.out.trans ((ex_set H8.out 7 _).mono fun k _ hk => .inl hk)⟩
          case measure => simp [intOf]; omega
      · have hkk : k = K := by omega
        subst hkk
        have q2 : ¬ (k : Int) < (k : Int) := by omega
        have hra := OI.rl hav
        have hok := tabS_ok false true 2 (k := k) (by omega)
        have hbw := HBX.out _ hex
        obtain ⟨C, hC⟩ : ∃ C, C = subC (tabS false true 2 k) av qv := ⟨_, rfl⟩
        have HCU := Lib.hid (show Cub C by rw [hC]; exact Cub.mk_ _ (rl_one hra) HON.out)
        obtain ⟨N, hN⟩ : ∃ N, N = (enc1L (tabS false true 2 k)).length := ⟨_, rfl⟩
        have hNv : N = 4 + k := by rw [hN]; simp [enc1L, acksL, noteL, queL, subL, wantL, extL, extB, tabS, upto_len]; omega
        have q9 : ((N : Int) == (4 : Int) + (k : Int)) = true := by rw [hNv]; simp
        have HEN := Lib.hid (fun W (h : Below wr.heap.size wr W) => by
          have := encode_any (tabS false true 2 k) av qv W (hra.below stays_ci h) ((HQX.out _ hex).below stays_cm h) hok (HP.out.below (hbw.trans (h.mono hbw.size)))
          rw [← hC] at this
          exact this : ∀ W (h : Below wr.heap.size wr W), Calls Tryd.prog 7 #[.agg C.toArray] W (GivesRw W (enc1L (tabS false true 2 k))))
        rw [← hC] at hwr
        have HWR := Lib.hid hwr
        have HBW := Lib.hid hbw
        have HNN := Lib.hid hN
        clear hra hok hbw hC hwr hav hex hN hNv
        go_wp2_with fail
        refine (HKN.out _ HBW.out).mono ?_
        rintro e w5 ⟨rfl, hb5⟩
        have HW5 := Lib.hid (HWR.out.below hb5)
        have HB5 := Lib.hid hb5
        have HBW5 := Lib.hid (HBW.out.trans (hb5.mono HBW.out.size))
        clear hb5
        go_wp2_with (first | (refine wpList_load_midG (by rfl) 27 (.tmp 9) rfl g 0 rfl _ _ HW5.out.range Tryd.underlying27 rfl HCU.out.infoL ?_))
        refine (HEN.out _ HB5.out).mono ?_
        rintro e w6 ⟨v6, rfl, hor, hb6⟩
        obtain ⟨A6, c6, rfl⟩ := or_shape hor
        rw [← HNN.out]
        have HB6 := Lib.hid (HBW5.out.trans (hb6.mono HBW5.out.size))
        clear hor hb6
        go_wp2
        go_ret
        exact ⟨rfl, HB6.out⟩
  · go_wp2_with fail
    generalize hA : World.alloc w _ = WA
    generalize hB1 : World.alloc WA _ = WB
    generalize hG : World.alloc WB _ = W3
    obtain ⟨qv, hqv⟩ : ∃ qv, qv = Value.slice (some ⟨w.heap.size + 1 + 1, 0, none⟩) 1 1 := ⟨_, rfl⟩
    have sA : WA.heap.size = w.heap.size + 1 := by rw [← hA]; simp
    have sB : WB.heap.size = w.heap.size + 1 + 1 := by rw [← hB1]; simp [sA]
    have hs3 : W3.heap.size = w.heap.size + 3 := by rw [← hG]; simp [sB]
    have hbA : Below w.heap.size w WA := by rw [← hA]; exact (Below.refl _ w).alloc (Nat.le_refl _) _
    have hbB : Below WA.heap.size WA WB := by rw [← hB1]; exact (Below.refl _ WA).alloc (Nat.le_refl _) _
    have hbC : Below WB.heap.size WB W3 := by rw [← hG]; exact (Below.refl _ WB).alloc (Nat.le_refl _) _
    have hwA : Wh WA w.heap.size (subC (tabS true false 0 0) (.slice none 0 0) qv) 27 := by rw [← hA, hqv]; exact Wh.new w _ _
    have hw3 : Wh W3 w.heap.size (subC (tabS true false 0 0) (.slice none 0 0) qv) 27 := (hwA.below hbB).below hbC
    have hb3 : Below w.heap.size w W3 := (hbA.trans (hbB.mono (by omega))).trans (hbC.mono (by omega))
    have hwm : Wh W3 WB.heap.size (msgC ⟨99, [], [], 0, 0, false, [], 0⟩) 45 := by rw [← hG]; exact Wh.new WB _ _
    have hq3 : RM W3 qv (tabS true false 0 0).queue := by
      rw [hqv, ← sB]
      refine ⟨_, 1, rfl, by decide, by decide, .inr ⟨WB.heap.size, 0, rfl, by omega, fun j hj => ?_⟩⟩
      have hj0 : j = 0 := by have : (tabS true false 0 0).queue.length = 1 := rfl; omega
      subst hj0
      refine ⟨_, rfl, fun i hi => ?_⟩
      have := hwm.bx.cell (i := i) hi
      simp only [Nat.zero_mul, Nat.zero_add]
      exact this
    obtain ⟨g, hg⟩ : ∃ g, g = w.heap.size := ⟨_, rfl⟩
    rw [← hg] at hw3 ⊢
    obtain ⟨B, hB⟩ : ∃ B, B = W3.heap.size := ⟨_, rfl⟩
    have HG := Lib.hid hg
    have HBB := Lib.hid (And.intro hB hs3)
    have HW3 := Lib.hid hw3
    have HQ3 := Lib.hid hq3
    have HB3 := Lib.hid hb3
    have HBX := Lib.hid (fun W (h : Ex (AB g B) W3 W) => hb3.trans (h.below (B := w.heap.size) (fun k hk => by unfold AB at hk; omega) (by omega)) : ∀ W (h : Ex (AB g B) W3 W), Below w.heap.size w W)
    have HQX := Lib.hid (fun W (h : Ex (AB g B) W3 W) => (by
      obtain ⟨A, c, h1, h2, h3, h4⟩ := hq3
      refine ⟨A, c, h1, h2, h3, ?_⟩
      rcases h4 with h4 | ⟨b, off, h5, h6, h7⟩
      · exact .inl h4
      · have hbe : b = w.heap.size + 1 + 1 := by rw [hqv] at h1; injection h1 with h1 _ _; rw [h5] at h1; injection h1 with h1; injection h1 with h1 _ _; exact h1.symm
        refine .inr ⟨b, off, h5, Nat.lt_of_lt_of_le h6 h.size, fun j hj => ?_⟩
        obtain ⟨cs, h8, h9⟩ := h7 j hj
        exact ⟨cs, h8, fun i hi => (World.cell?_of_block (a := ⟨b, off + j * 8 + i, none⟩) (h.block b h6 (by unfold AB; omega))).trans (h9 i hi)⟩) : ∀ W (h : Ex (AB g B) W3 W), RM W qv (tabS true false 0 0).queue)
    have HON := Lib.hid (show qv.oneCell' = true by rw [hqv]; rfl)
    clear hG hw3 hb3 hs3 hq3 hg hB hqv hA hB1 sA sB hbA hbB hbC hwA hwm
    go_loopw [12] (fun i wr => ∃ (k : Nat) (av : Value), k ≤ K ∧ i = .int .i64 k ∧ Wh wr g (subC (tabS true false 0 k) av qv) 27 ∧ OI B wr av (upto k) ∧ Ex (AB g B) W3 wr) (fun i _ => K - (intOf i).toNat)
    case atStart => exact ⟨0, .slice none 0 0, Nat.zero_le _, rfl, HW3.out, World.ownsRow_nil _ _ _ _, Ex.refl _ _⟩
    case round =>
      obtain ⟨k, av, hkK, rfl, hwr, hav, hex⟩ := hrel
      by_cases hlt : k < K
      · have q2 : (k : Int) < (K : Int) := by omega
        have HW := Lib.hid hwr
        have HA := Lib.hid (show wr.ownsRow B 3 1 av k ((upto k).map iv) by have h := hav; unfold OI at h; rw [upto_len] at h; exact h)
        obtain ⟨Aa, ca, rfl, _⟩ := own_shape HA.out
        have c7 := wh_cell hwr (i := 7) rfl
        have HEX := Lib.hid hex
        have hBs : B ≤ wr.heap.size := by rw [HBB.out.1]; exact hex.size
        have HBS := Lib.hid hBs
        have HSR := Lib.hid (fun (u : World) => src_cells (P := Tryd.prog) u rfl Tryd.underlying24 3 [.int .i64 ((k : Int) + 1)] (fun u hu => by simp at hu; subst hu; rfl))
        have HB0 := Lib.hid ((Below.refl B wr).alloc hBs (Obj.cells #[.int .i64 ((k : Int) + 1)] 3))
        clear hwr hav hex hBs
        go_wp2_with (at_builtin; refine wpList_own rfl (.tmp 38) (.tmp 41) 24 24 rfl B 3 _ 1 8 Tryd.underlying24 infoNum rfl rfl (HA.out.alloc _) rfl (HSR.out wr) HB0.out (Nat.le_refl _) ?_ ?_ ?_ ?_)
        · unfold maxLen; omega
        · omega
        · have := HBS.out; simp; omega
        · intro v8 w8 hown8 hbel8 hgr
          have hw8 : Wh w8 g (subC (tabS true false 0 k) (.slice Aa k ca) qv) 27 := wh_grown (HW.out.alloc _) (HA.out.alloc _) (by decide) hgr
          have ha8 : w8.ownsRow B 3 1 v8 (k + 1) ((upto (k + 1)).map iv) := by rw [upto_succ, List.map_append]; exact hown8
          have z78 := hw8.frozen 7
          have c78 := wh_cell hw8 (i := 7) rfl
          obtain ⟨A8, k8, rfl, _⟩ := own_shape ha8
          have hex8 : Ex (AB g B) wr w8 := ⟨hbel8.os, hbel8.tape, hbel8.output, hbel8.size, fun k hk hA => hbel8.block k (by unfold AB at hA; omega)⟩
          have H8 := Lib.hid hw8
          have HA8 := Lib.hid ha8
          have HX8 := Lib.hid (HEX.out.trans hex8)
          clear hw8 ha8 hex8 hown8 hbel8 hgr c7
          go_wp2
          go_roundw
          case rel =>
            have hgg := (ex_set H8.out 7 (.slice A8 (k + 1) k8)).grown
            exact ⟨k + 1, .slice A8 (k + 1) k8, by omega, by go_num, H8.out.set1 7 _, by have h := own_wh HA8.out H8.out (by decide) hgg; unfold OI; rw [upto_len]; exact h, HX8.out.trans ((ex_set H8.out 7 _).mono fun k _ hk => .inl hk)⟩
          case measure => simp [intOf]; omega
      · have hkk : k = K := by omega
        subst hkk
        have q2 : ¬ (k : Int) < (k : Int) := by omega
        have hra := OI.rl hav
        have hok := tabS_ok true false 0 (k := k) (by omega)
        have hbw := HBX.out _ hex
        obtain ⟨C, hC⟩ : ∃ C, C = subC (tabS true false 0 k) av qv := ⟨_, rfl⟩
        have HCU := Lib.hid (show Cub C by rw [hC]; exact Cub.mk_ _ (rl_one hra) HON.out)
        obtain ⟨N, hN⟩ : ∃ N, N = (enc1L (tabS true false 0 k)).length := ⟨_, rfl⟩
        have hNv : N = 3 + k := by rw [hN]; simp [enc1L, acksL, noteL, queL, subL, wantL, extL, extB, tabS, upto_len]; omega
        have q9 : ((N : Int) == (3 : Int) + (k : Int)) = true := by rw [hNv]; simp
        have HEN := Lib.hid (fun W (h : Below wr.heap.size wr W) => by
          have := encode_any (tabS true false 0 k) av qv W (hra.below stays_ci h) ((HQX.out _ hex).below stays_cm h) hok (HP.out.below (hbw.trans (h.mono hbw.size)))
          rw [← hC] at this
          exact this : ∀ W (h : Below wr.heap.size wr W), Calls Tryd.prog 7 #[.agg C.toArray] W (GivesRw W (enc1L (tabS true false 0 k))))
        rw [← hC] at hwr
        have HWR := Lib.hid hwr
        have HBW := Lib.hid hbw
        have HNN := Lib.hid hN
        clear hra hok hbw hC hwr hav hex hN hNv
        go_wp2_with fail
        refine (HKN.out _ HBW.out).mono ?_
        rintro e w5 ⟨rfl, hb5⟩
        have HW5 := Lib.hid (HWR.out.below hb5)
        have HB5 := Lib.hid hb5
        have HBW5 := Lib.hid (HBW.out.trans (hb5.mono HBW.out.size))
        clear hb5
        go_wp2_with (first | (refine wpList_load_midG (by rfl) 27 (.tmp 9) rfl g 0 rfl _ _ HW5.out.range Tryd.underlying27 rfl HCU.out.infoL ?_))
        refine (HEN.out _ HB5.out).mono ?_
        rintro e w6 ⟨v6, rfl, hor, hb6⟩
        obtain ⟨A6, c6, rfl⟩ := or_shape hor
        rw [← HNN.out]
        have HB6 := Lib.hid (HBW5.out.trans (hb6.mono HBW5.out.size))
        clear hor hb6
        go_wp2
        go_ret
        exact ⟨rfl, HB6.out⟩
  · go_wp2_with fail
    generalize hA : World.alloc w _ = WA
    generalize hB1 : World.alloc WA _ = WB
    generalize hG : World.alloc WB _ = W3
    obtain ⟨qv, hqv⟩ : ∃ qv, qv = Value.slice (some ⟨w.heap.size + 1 + 1, 0, none⟩) 1 1 := ⟨_, rfl⟩
    have sA : WA.heap.size = w.heap.size + 1 := by rw [← hA]; simp
    have sB : WB.heap.size = w.heap.size + 1 + 1 := by rw [← hB1]; simp [sA]
    have hs3 : W3.heap.size = w.heap.size + 3 := by rw [← hG]; simp [sB]
    have hbA : Below w.heap.size w WA := by rw [← hA]; exact (Below.refl _ w).alloc (Nat.le_refl _) _
    have hbB : Below WA.heap.size WA WB := by rw [← hB1]; exact (Below.refl _ WA).alloc (Nat.le_refl _) _
    have hbC : Below WB.heap.size WB W3 := by rw [← hG]; exact (Below.refl _ WB).alloc (Nat.le_refl _) _
    have hwA : Wh WA w.heap.size (subC (tabS true false 2 0) (.slice none 0 0) qv) 27 := by rw [← hA, hqv]; exact Wh.new w _ _
    have hw3 : Wh W3 w.heap.size (subC (tabS true false 2 0) (.slice none 0 0) qv) 27 := (hwA.below hbB).below hbC
    have hb3 : Below w.heap.size w W3 := (hbA.trans (hbB.mono (by omega))).trans (hbC.mono (by omega))
    have hwm : Wh W3 WB.heap.size (msgC ⟨99, [], [], 0, 0, false, [], 2⟩) 45 := by rw [← hG]; exact Wh.new WB _ _
    have hq3 : RM W3 qv (tabS true false 2 0).queue := by
      rw [hqv, ← sB]
      refine ⟨_, 1, rfl, by decide, by decide, .inr ⟨WB.heap.size, 0, rfl, by omega, fun j hj => ?_⟩⟩
      have hj0 : j = 0 := by have : (tabS true false 2 0).queue.length = 1 := rfl; omega
      subst hj0
      refine ⟨_, rfl, fun i hi => ?_⟩
      have := hwm.bx.cell (i := i) hi
      simp only [Nat.zero_mul, Nat.zero_add]
      exact this
    obtain ⟨g, hg⟩ : ∃ g, g = w.heap.size := ⟨_, rfl⟩
    rw [← hg] at hw3 ⊢
    obtain ⟨B, hB⟩ : ∃ B, B = W3.heap.size := ⟨_, rfl⟩
    have HG := Lib.hid hg
    have HBB := Lib.hid (And.intro hB hs3)
    have HW3 := Lib.hid hw3
    have HQ3 := Lib.hid hq3
    have HB3 := Lib.hid hb3
    have HBX := Lib.hid (fun W (h : Ex (AB g B) W3 W) => hb3.trans (h.below (B := w.heap.size) (fun k hk => by unfold AB at hk; omega) (by omega)) : ∀ W (h : Ex (AB g B) W3 W), Below w.heap.size w W)
    have HQX := Lib.hid (fun W (h : Ex (AB g B) W3 W) => (by
      obtain ⟨A, c, h1, h2, h3, h4⟩ := hq3
      refine ⟨A, c, h1, h2, h3, ?_⟩
      rcases h4 with h4 | ⟨b, off, h5, h6, h7⟩
      · exact .inl h4
      · have hbe : b = w.heap.size + 1 + 1 := by rw [hqv] at h1; injection h1 with h1 _ _; rw [h5] at h1; injection h1 with h1; injection h1 with h1 _ _; exact h1.symm
        refine .inr ⟨b, off, h5, Nat.lt_of_lt_of_le h6 h.size, fun j hj => ?_⟩
        obtain ⟨cs, h8, h9⟩ := h7 j hj
        exact ⟨cs, h8, fun i hi => (World.cell?_of_block (a := ⟨b, off + j * 8 + i, none⟩) (h.block b h6 (by unfold AB; omega))).trans (h9 i hi)⟩) : ∀ W (h : Ex (AB g B) W3 W), RM W qv (tabS true false 2 0).queue)
    have HON := Lib.hid (show qv.oneCell' = true by rw [hqv]; rfl)
    clear hG hw3 hb3 hs3 hq3 hg hB hqv hA hB1 sA sB hbA hbB hbC hwA hwm
    go_loopw [12] (fun i wr => ∃ (k : Nat) (av : Value), k ≤ K ∧ i = .int .i64 k ∧ Wh wr g (subC (tabS true false 2 k) av qv) 27 ∧ OI B wr av (upto k) ∧ Ex (AB g B) W3 wr) (fun i _ => K - (intOf i).toNat)
    case atStart => exact ⟨0, .slice none 0 0, Nat.zero_le _, rfl, HW3.out, World.ownsRow_nil _ _ _ _, Ex.refl _ _⟩
    case round =>
      obtain ⟨k, av, hkK, rfl, hwr, hav, hex⟩ := hrel
      by_cases hlt : k < K
      · have q2 : (k : Int) < (K : Int) := by omega
        have HW := Lib.hid hwr
        have HA := Lib.hid (show wr.ownsRow B 3 1 av k ((upto k).map iv) by have h := hav; unfold OI at h; rw [upto_len] at h; exact h)
        obtain ⟨Aa, ca, rfl, _⟩ := own_shape HA.out
        have c7 := wh_cell hwr (i := 7) rfl
        have HEX := Lib.hid hex
        have hBs : B ≤ wr.heap.size := by rw [HBB.out.1]; exact hex.size
        have HBS := Lib.hid hBs
        have HSR := Lib.hid (fun (u : World) => src_cells (P := Tryd.prog) u rfl Tryd.underlying24 3 [.int .i64 ((k : Int) + 1)] (fun u hu => by simp at hu; subst hu; rfl))
        have HB0 := Lib.hid ((Below.refl B wr).alloc hBs (Obj.cells #[.int .i64 ((k : Int) + 1)] 3))
        clear hwr hav hex hBs
        go_wp2_with (at_builtin; refine wpList_own rfl (.tmp 38) (.tmp 41) 24 24 rfl B 3 _ 1 8 Tryd.underlying24 infoNum rfl rfl (HA.out.alloc _) rfl (HSR.out wr) HB0.out (Nat.le_refl _) ?_ ?_ ?_ ?_)
        · unfold maxLen; omega
        · omega
        · have := HBS.out; simp; omega
        · intro v8 w8 hown8 hbel8 hgr
          have hw8 : Wh w8 g (subC (tabS true false 2 k) (.slice Aa k ca) qv) 27 := wh_grown (HW.out.alloc _) (HA.out.alloc _) (by decide) hgr
          have ha8 : w8.ownsRow B 3 1 v8 (k + 1) ((upto (k + 1)).map iv) := by rw [upto_succ, List.map_append]; exact hown8
          have z78 := hw8.frozen 7
          have c78 := wh_cell hw8 (i := 7) rfl
          obtain ⟨A8, k8, rfl, _⟩ := own_shape ha8
          have hex8 : Ex (AB g B) wr w8 := ⟨hbel8.os, hbel8.tape, hbel8.output, hbel8.size, fun k hk hA => hbel8.block k (by unfold AB at hA; omega)⟩
          have H8 := Lib.hid hw8
          have HA8 := Lib.hid ha8
          have HX8 := Lib.hid (HEX.out.trans hex8)
          clear hw8 ha8 hex8 hown8 hbel8 hgr c7
          go_wp2
          go_roundw
          case rel =>
            have hgg := (ex_set H8.out 7 (.slice A8 (k + 1) k8)).grown
            exact ⟨k + 1, .slice A8 (k + 1) k8, by omega, by go_num, H8.out.set1 7 _, by have h := own_wh HA8.out H8.out (by decide) hgg; unfold OI; rw [upto_len]; exact h, HX8.out.trans ((ex_set H8.out 7 _).mono fun k _ hk => .inl hk)⟩
          case measure => simp [intOf]; omega
      · have hkk : k = K := by omega
        subst hkk
        have q2 : ¬ (k : Int) < (k : Int) := by omega
        have hra := OI.rl hav
        have hok := tabS_ok true false 2 (k := k) (by omega)
        have hbw := HBX.out _ hex
        obtain ⟨C, hC⟩ : ∃ C, C = subC (tabS true false 2 k) av qv := ⟨_, rfl⟩
        have HCU := Lib.hid (show Cub C by rw [hC]; exact Cub.mk_ _ (rl_one hra) HON.out)
        obtain ⟨N, hN⟩ : ∃ N, N = (enc1L (tabS true false 2 k)).length := ⟨_, rfl⟩
        have hNv : N = 4 + k := by rw [hN]; simp [enc1L, acksL, noteL, queL, subL, wantL, extL, extB, tabS, upto_len]; omega
        have q9 : ((N : Int) == (4 : Int) + (k : Int)) = true := by rw [hNv]; simp
        have HEN := Lib.hid (fun W (h : Below wr.heap.size wr W) => by
          have := encode_any (tabS true false 2 k) av qv W (hra.below stays_ci h) ((HQX.out _ hex).below stays_cm h) hok (HP.out.below (hbw.trans (h.mono hbw.size)))
          rw [← hC] at this
          exact this : ∀ W (h : Below wr.heap.size wr W), Calls Tryd.prog 7 #[.agg C.toArray] W (GivesRw W (enc1L (tabS true false 2 k))))
        rw [← hC] at hwr
        have HWR := Lib.hid hwr
        have HBW := Lib.hid hbw
        have HNN := Lib.hid hN
        clear hra hok hbw hC hwr hav hex hN hNv
        go_wp2_with fail
        refine (HKN.out _ HBW.out).mono ?_
        rintro e w5 ⟨rfl, hb5⟩
        have HW5 := Lib.hid (HWR.out.below hb5)
        have HB5 := Lib.hid hb5
        have HBW5 := Lib.hid (HBW.out.trans (hb5.mono HBW.out.size))
        clear hb5
        go_wp2_with (first | (refine wpList_load_midG (by rfl) 27 (.tmp 9) rfl g 0 rfl _ _ HW5.out.range Tryd.underlying27 rfl HCU.out.infoL ?_))
        refine (HEN.out _ HB5.out).mono ?_
        rintro e w6 ⟨v6, rfl, hor, hb6⟩
        obtain ⟨A6, c6, rfl⟩ := or_shape hor
        rw [← HNN.out]
        have HB6 := Lib.hid (HBW5.out.trans (hb6.mono HBW5.out.size))
        clear hor hb6
        go_wp2
        go_ret
        exact ⟨rfl, HB6.out⟩
  · go_wp2_with fail
    generalize hA : World.alloc w _ = WA
    generalize hB1 : World.alloc WA _ = WB
    generalize hG : World.alloc WB _ = W3
    obtain ⟨qv, hqv⟩ : ∃ qv, qv = Value.slice (some ⟨w.heap.size + 1 + 1, 0, none⟩) 1 1 := ⟨_, rfl⟩
    have sA : WA.heap.size = w.heap.size + 1 := by rw [← hA]; simp
    have sB : WB.heap.size = w.heap.size + 1 + 1 := by rw [← hB1]; simp [sA]
    have hs3 : W3.heap.size = w.heap.size + 3 := by rw [← hG]; simp [sB]
    have hbA : Below w.heap.size w WA := by rw [← hA]; exact (Below.refl _ w).alloc (Nat.le_refl _) _
    have hbB : Below WA.heap.size WA WB := by rw [← hB1]; exact (Below.refl _ WA).alloc (Nat.le_refl _) _
    have hbC : Below WB.heap.size WB W3 := by rw [← hG]; exact (Below.refl _ WB).alloc (Nat.le_refl _) _
    have hwA : Wh WA w.heap.size (subC (tabS true true 0 0) (.slice none 0 0) qv) 27 := by rw [← hA, hqv]; exact Wh.new w _ _
    have hw3 : Wh W3 w.heap.size (subC (tabS true true 0 0) (.slice none 0 0) qv) 27 := (hwA.below hbB).below hbC
    have hb3 : Below w.heap.size w W3 := (hbA.trans (hbB.mono (by omega))).trans (hbC.mono (by omega))
    have hwm : Wh W3 WB.heap.size (msgC ⟨99, [], [], 0, 0, false, [], 0⟩) 45 := by rw [← hG]; exact Wh.new WB _ _
    have hq3 : RM W3 qv (tabS true true 0 0).queue := by
      rw [hqv, ← sB]
      refine ⟨_, 1, rfl, by decide, by decide, .inr ⟨WB.heap.size, 0, rfl, by omega, fun j hj => ?_⟩⟩
      have hj0 : j = 0 := by have : (tabS true true 0 0).queue.length = 1 := rfl; omega
      subst hj0
      refine ⟨_, rfl, fun i hi => ?_⟩
      have := hwm.bx.cell (i := i) hi
      simp only [Nat.zero_mul, Nat.zero_add]
      exact this
    obtain ⟨g, hg⟩ : ∃ g, g = w.heap.size := ⟨_, rfl⟩
    rw [← hg] at hw3 ⊢
    obtain ⟨B, hB⟩ : ∃ B, B = W3.heap.size := ⟨_, rfl⟩
    have HG := Lib.hid hg
    have HBB := Lib.hid (And.intro hB hs3)
    have HW3 := Lib.hid hw3
    have HQ3 := Lib.hid hq3
    have HB3 := Lib.hid hb3
    have HBX := Lib.hid (fun W (h : Ex (AB g B) W3 W) => hb3.trans (h.below (B := w.heap.size) (fun k hk => by unfold AB at hk; omega) (by omega)) : ∀ W (h : Ex (AB g B) W3 W), Below w.heap.size w W)
    have HQX := Lib.hid (fun W (h : Ex (AB g B) W3 W) => (by
      obtain ⟨A, c, h1, h2, h3, h4⟩ := hq3
      refine ⟨A, c, h1, h2, h3, ?_⟩
      rcases h4 with h4 | ⟨b, off, h5, h6, h7⟩
      · exact .inl h4
      · have hbe : b = w.heap.size + 1 + 1 := by rw [hqv] at h1; injection h1 with h1 _ _; rw [h5] at h1; injection h1 with h1; injection h1 with h1 _ _; exact h1.symm
        refine .inr ⟨b, off, h5, Nat.lt_of_lt_of_le h6 h.size, fun j hj => ?_⟩
        obtain ⟨cs, h8, h9⟩ := h7 j hj
        exact ⟨cs, h8, fun i hi => (World.cell?_of_block (a := ⟨b, off + j * 8 + i, none⟩) (h.block b h6 (by unfold AB; omega))).trans (h9 i hi)⟩) : ∀ W (h : Ex (AB g B) W3 W), RM W qv (tabS true true 0 0).queue)
    have HON := Lib.hid (show qv.oneCell' = true by rw [hqv]; rfl)
    clear hG hw3 hb3 hs3 hq3 hg hB hqv hA hB1 sA sB hbA hbB hbC hwA hwm
    go_loopw [12] (fun i wr => ∃ (k : Nat) (av : Value), k ≤ K ∧ i = .int .i64 k ∧ Wh wr g (subC (tabS true true 0 k) av qv) 27 ∧ OI B wr av (upto k) ∧ Ex (AB g B) W3 wr) (fun i _ => K - (intOf i).toNat)
    case atStart => exact ⟨0, .slice none 0 0, Nat.zero_le _, rfl, HW3.out, World.ownsRow_nil _ _ _ _, Ex.refl _ _⟩
    case round =>
      obtain ⟨k, av, hkK, rfl, hwr, hav, hex⟩ := hrel
      by_cases hlt : k < K
      · have q2 : (k : Int) < (K : Int) := by omega
        have HW := Lib.hid hwr
        have HA := Lib.hid (show wr.ownsRow B 3 1 av k ((upto k).map iv) by have h := hav; unfold OI at h; rw [upto_len] at h; exact h)
        obtain ⟨Aa, ca, rfl, _⟩ := own_shape HA.out
        have c7 := wh_cell hwr (i := 7) rfl
        have HEX := Lib.hid hex
        have hBs : B ≤ wr.heap.size := by rw [HBB.out.1]; exact hex.size
        have HBS := Lib.hid hBs
        have HSR := Lib.hid (fun (u : World) => src_cells (P := Tryd.prog) u rfl Tryd.underlying24 3 [.int .i64 ((k : Int) + 1)] (fun u hu => by simp at hu; subst hu; rfl))
        have HB0 := Lib.hid ((Below.refl B wr).alloc hBs (Obj.cells #[.int .i64 ((k : Int) + 1)] 3))
        clear hwr hav hex hBs
        go_wp2_with (at_builtin; refine wpList_own rfl (.tmp 38) (.tmp 41) 24 24 rfl B 3 _ 1 8 Tryd.underlying24 infoNum rfl rfl (HA.out.alloc _) rfl (HSR.out wr) HB0.out (Nat.le_refl _) ?_ ?_ ?_ ?_)
        · unfold maxLen; omega
        · omega
        · have := HBS.out; simp; omega
        · intro v8 w8 hown8 hbel8 hgr
          have hw8 : Wh w8 g (subC (tabS true true 0 k) (.slice Aa k ca) qv) 27 := wh_grown (HW.out.alloc _) (HA.out.alloc _) (by decide) hgr
          have ha8 : w8.ownsRow B 3 1 v8 (k + 1) ((upto (k + 1)).map iv) := by rw [upto_succ, List.map_append]; exact hown8
          have z78 := hw8.frozen 7
          have c78 := wh_cell hw8 (i := 7) rfl
          obtain ⟨A8, k8, rfl, _⟩ := own_shape ha8
          have hex8 : Ex (AB g B) wr w8 := ⟨hbel8.os, hbel8.tape, hbel8.output, hbel8.size, fun k hk hA => hbel8.block k (by unfold AB at hA; omega)⟩
          have H8 := Lib.hid hw8
          have HA8 := Lib.hid ha8
          have HX8 := Lib.hid (HEX.out.trans hex8)
          clear hw8 ha8 hex8 hown8 hbel8 hgr c7
          go_wp2
          go_roundw
          case rel =>
            have hgg := (ex_set H8.out 7 (.slice A8 (k + 1) k8)).grown
            exact ⟨k + 1, .slice A8 (k + 1) k8, by omega, by go_num, H8.out.set1 7 _, by have h := own_wh HA8.out H8.out (by decide) hgg; unfold OI; rw [upto_len]; exact h, HX8.out.trans ((ex_set H8.out 7 _).mono fun k _ hk => .inl hk)⟩
          case measure => simp [intOf]; omega
      · have hkk : k = K := by omega
        subst hkk
        have q2 : ¬ (k : Int) < (k : Int) := by omega
        have hra := OI.rl hav
        have hok := tabS_ok true true 0 (k := k) (by omega)
        have hbw := HBX.out _ hex
        obtain ⟨C, hC⟩ : ∃ C, C = subC (tabS true true 0 k) av qv := ⟨_, rfl⟩
        have HCU := Lib.hid (show Cub C by rw [hC]; exact Cub.mk_ _ (rl_one hra) HON.out)
        obtain ⟨N, hN⟩ : ∃ N, N = (enc1L (tabS true true 0 k)).length := ⟨_, rfl⟩
        have hNv : N = 4 + k := by rw [hN]; simp [enc1L, acksL, noteL, queL, subL, wantL, extL, extB, tabS, upto_len]; omega
        have q9 : ((N : Int) == (4 : Int) + (k : Int)) = true := by rw [hNv]; simp
        have HEN := Lib.hid (fun W (h : Below wr.heap.size wr W) => by
          have := encode_any (tabS true true 0 k) av qv W (hra.below stays_ci h) ((HQX.out _ hex).below stays_cm h) hok (HP.out.below (hbw.trans (h.mono hbw.size)))
          rw [← hC] at this
          exact this : ∀ W (h : Below wr.heap.size wr W), Calls Tryd.prog 7 #[.agg C.toArray] W (GivesRw W (enc1L (tabS true true 0 k))))
        rw [← hC] at hwr
        have HWR := Lib.hid hwr
        have HBW := Lib.hid hbw
        have HNN := Lib.hid hN
        clear hra hok hbw hC hwr hav hex hN hNv
        go_wp2_with fail
        refine (HKN.out _ HBW.out).mono ?_
        rintro e w5 ⟨rfl, hb5⟩
        have HW5 := Lib.hid (HWR.out.below hb5)
        have HB5 := Lib.hid hb5
        have HBW5 := Lib.hid (HBW.out.trans (hb5.mono HBW.out.size))
        clear hb5
        go_wp2_with (first | (refine wpList_load_midG (by rfl) 27 (.tmp 9) rfl g 0 rfl _ _ HW5.out.range Tryd.underlying27 rfl HCU.out.infoL ?_))
        refine (HEN.out _ HB5.out).mono ?_
        rintro e w6 ⟨v6, rfl, hor, hb6⟩
        obtain ⟨A6, c6, rfl⟩ := or_shape hor
        rw [← HNN.out]
        have HB6 := Lib.hid (HBW5.out.trans (hb6.mono HBW5.out.size))
        clear hor hb6
        go_wp2
        go_ret
        exact ⟨rfl, HB6.out⟩
  · go_wp2_with fail
    generalize hA : World.alloc w _ = WA
    generalize hB1 : World.alloc WA _ = WB
    generalize hG : World.alloc WB _ = W3
    obtain ⟨qv, hqv⟩ : ∃ qv, qv = Value.slice (some ⟨w.heap.size + 1 + 1, 0, none⟩) 1 1 := ⟨_, rfl⟩
    have sA : WA.heap.size = w.heap.size + 1 := by rw [← hA]; simp
    have sB : WB.heap.size = w.heap.size + 1 + 1 := by rw [← hB1]; simp [sA]
    have hs3 : W3.heap.size = w.heap.size + 3 := by rw [← hG]; simp [sB]
    have hbA : Below w.heap.size w WA := by rw [← hA]; exact (Below.refl _ w).alloc (Nat.le_refl _) _
    have hbB : Below WA.heap.size WA WB := by rw [← hB1]; exact (Below.refl _ WA).alloc (Nat.le_refl _) _
    have hbC : Below WB.heap.size WB W3 := by rw [← hG]; exact (Below.refl _ WB).alloc (Nat.le_refl _) _
    have hwA : Wh WA w.heap.size (subC (tabS true true 2 0) (.slice none 0 0) qv) 27 := by rw [← hA, hqv]; exact Wh.new w _ _
    have hw3 : Wh W3 w.heap.size (subC (tabS true true 2 0) (.slice none 0 0) qv) 27 := (hwA.below hbB).below hbC
    have hb3 : Below w.heap.size w W3 := (hbA.trans (hbB.mono (by omega))).trans (hbC.mono (by omega))
    have hwm : Wh W3 WB.heap.size (msgC ⟨99, [], [], 0, 0, false, [], 2⟩) 45 := by rw [← hG]; exact Wh.new WB _ _
    have hq3 : RM W3 qv (tabS true true 2 0).queue := by
      rw [hqv, ← sB]
      refine ⟨_, 1, rfl, by decide, by decide, .inr ⟨WB.heap.size, 0, rfl, by omega, fun j hj => ?_⟩⟩
      have hj0 : j = 0 := by have : (tabS true true 2 0).queue.length = 1 := rfl; omega
      subst hj0
      refine ⟨_, rfl, fun i hi => ?_⟩
      have := hwm.bx.cell (i := i) hi
      simp only [Nat.zero_mul, Nat.zero_add]
      exact this
    obtain ⟨g, hg⟩ : ∃ g, g = w.heap.size := ⟨_, rfl⟩
    rw [← hg] at hw3 ⊢
    obtain ⟨B, hB⟩ : ∃ B, B = W3.heap.size := ⟨_, rfl⟩
    have HG := Lib.hid hg
    have HBB := Lib.hid (And.intro hB hs3)
    have HW3 := Lib.hid hw3
    have HQ3 := Lib.hid hq3
    have HB3 := Lib.hid hb3
    have HBX := Lib.hid (fun W (h : Ex (AB g B) W3 W) => hb3.trans (h.below (B := w.heap.size) (fun k hk => by unfold AB at hk; omega) (by omega)) : ∀ W (h : Ex (AB g B) W3 W), Below w.heap.size w W)
    have HQX := Lib.hid (fun W (h : Ex (AB g B) W3 W) => (by
      obtain ⟨A, c, h1, h2, h3, h4⟩ := hq3
      refine ⟨A, c, h1, h2, h3, ?_⟩
      rcases h4 with h4 | ⟨b, off, h5, h6, h7⟩
      · exact .inl h4
      · have hbe : b = w.heap.size + 1 + 1 := by rw [hqv] at h1; injection h1 with h1 _ _; rw [h5] at h1; injection h1 with h1; injection h1 with h1 _ _; exact h1.symm
        refine .inr ⟨b, off, h5, Nat.lt_of_lt_of_le h6 h.size, fun j hj => ?_⟩
        obtain ⟨cs, h8, h9⟩ := h7 j hj
        exact ⟨cs, h8, fun i hi => (World.cell?_of_block (a := ⟨b, off + j * 8 + i, none⟩) (h.block b h6 (by unfold AB; omega))).trans (h9 i hi)⟩) : ∀ W (h : Ex (AB g B) W3 W), RM W qv (tabS true true 2 0).queue)
    have HON := Lib.hid (show qv.oneCell' = true by rw [hqv]; rfl)
    clear hG hw3 hb3 hs3 hq3 hg hB hqv hA hB1 sA sB hbA hbB hbC hwA hwm
    go_loopw [12] (fun i wr => ∃ (k : Nat) (av : Value), k ≤ K ∧ i = .int .i64 k ∧ Wh wr g (subC (tabS true true 2 k) av qv) 27 ∧ OI B wr av (upto k) ∧ Ex (AB g B) W3 wr) (fun i _ => K - (intOf i).toNat)
    case atStart => exact ⟨0, .slice none 0 0, Nat.zero_le _, rfl, HW3.out, World.ownsRow_nil _ _ _ _, Ex.refl _ _⟩
    case round =>
      obtain ⟨k, av, hkK, rfl, hwr, hav, hex⟩ := hrel
      by_cases hlt : k < K
      · have q2 : (k : Int) < (K : Int) := by omega
        have HW := Lib.hid hwr
        have HA := Lib.hid (show wr.ownsRow B 3 1 av k ((upto k).map iv) by have h := hav; unfold OI at h; rw [upto_len] at h; exact h)
        obtain ⟨Aa, ca, rfl, _⟩ := own_shape HA.out
        have c7 := wh_cell hwr (i := 7) rfl
        have HEX := Lib.hid hex
        have hBs : B ≤ wr.heap.size := by rw [HBB.out.1]; exact hex.size
        have HBS := Lib.hid hBs
        have HSR := Lib.hid (fun (u : World) => src_cells (P := Tryd.prog) u rfl Tryd.underlying24 3 [.int .i64 ((k : Int) + 1)] (fun u hu => by simp at hu; subst hu; rfl))
        have HB0 := Lib.hid ((Below.refl B wr).alloc hBs (Obj.cells #[.int .i64 ((k : Int) + 1)] 3))
        clear hwr hav hex hBs
        go_wp2_with (at_builtin; refine wpList_own rfl (.tmp 38) (.tmp 41) 24 24 rfl B 3 _ 1 8 Tryd.underlying24 infoNum rfl rfl (HA.out.alloc _) rfl (HSR.out wr) HB0.out (Nat.le_refl _) ?_ ?_ ?_ ?_)
        · unfold maxLen; omega
        · omega
        · have := HBS.out; simp; omega
        · intro v8 w8 hown8 hbel8 hgr
          have hw8 : Wh w8 g (subC (tabS true true 2 k) (.slice Aa k ca) qv) 27 := wh_grown (HW.out.alloc _) (HA.out.alloc _) (by decide) hgr
          have ha8 : w8.ownsRow B 3 1 v8 (k + 1) ((upto (k + 1)).map iv) := by rw [upto_succ, List.map_append]; exact hown8
          have z78 := hw8.frozen 7
          have c78 := wh_cell hw8 (i := 7) rfl
          obtain ⟨A8, k8, rfl, _⟩ := own_shape ha8
          have hex8 : Ex (AB g B) wr w8 := ⟨hbel8.os, hbel8.tape, hbel8.output, hbel8.size, fun k hk hA => hbel8.block k (by unfold AB at hA; omega)⟩
          have H8 := Lib.hid hw8
          have HA8 := Lib.hid ha8
          have HX8 := Lib.hid (HEX.out.trans hex8)
          clear hw8 ha8 hex8 hown8 hbel8 hgr c7
          go_wp2
          go_roundw
          case rel =>
            have hgg := (ex_set H8.out 7 (.slice A8 (k + 1) k8)).grown
            exact ⟨k + 1, .slice A8 (k + 1) k8, by omega, by go_num, H8.out.set1 7 _, by have h := own_wh HA8.out H8.out (by decide) hgg; unfold OI; rw [upto_len]; exact h, HX8.out.trans ((ex_set H8.out 7 _).mono fun k _ hk => .inl hk)⟩
          case measure => simp [intOf]; omega
      · have hkk : k = K := by omega
        subst hkk
        have q2 : ¬ (k : Int) < (k : Int) := by omega
        have hra := OI.rl hav
        have hok := tabS_ok true true 2 (k := k) (by omega)
        have hbw := HBX.out _ hex
        obtain ⟨C, hC⟩ : ∃ C, C = subC (tabS true true 2 k) av qv := ⟨_, rfl⟩
        have HCU := Lib.hid (show Cub C by rw [hC]; exact Cub.mk_ _ (rl_one hra) HON.out)
        obtain ⟨N, hN⟩ : ∃ N, N = (enc1L (tabS true true 2 k)).length := ⟨_, rfl⟩
        have hNv : N = 5 + k := by rw [hN]; simp [enc1L, acksL, noteL, queL, subL, wantL, extL, extB, tabS, upto_len]; omega
        have q9 : ((N : Int) == (5 : Int) + (k : Int)) = true := by rw [hNv]; simp
        have HEN := Lib.hid (fun W (h : Below wr.heap.size wr W) => by
          have := encode_any (tabS true true 2 k) av qv W (hra.below stays_ci h) ((HQX.out _ hex).below stays_cm h) hok (HP.out.below (hbw.trans (h.mono hbw.size)))
          rw [← hC] at this
          exact this : ∀ W (h : Below wr.heap.size wr W), Calls Tryd.prog 7 #[.agg C.toArray] W (GivesRw W (enc1L (tabS true true 2 k))))
        rw [← hC] at hwr
        have HWR := Lib.hid hwr
        have HBW := Lib.hid hbw
        have HNN := Lib.hid hN
        clear hra hok hbw hC hwr hav hex hN hNv
        go_wp2_with fail
        refine (HKN.out _ HBW.out).mono ?_
        rintro e w5 ⟨rfl, hb5⟩
        have HW5 := Lib.hid (HWR.out.below hb5)
        have HB5 := Lib.hid hb5
        have HBW5 := Lib.hid (HBW.out.trans (hb5.mono HBW.out.size))
        clear hb5
        go_wp2_with (first | (refine wpList_load_midG (by rfl) 27 (.tmp 9) rfl g 0 rfl _ _ HW5.out.range Tryd.underlying27 rfl HCU.out.infoL ?_))
        refine (HEN.out _ HB5.out).mono ?_
        rintro e w6 ⟨v6, rfl, hor, hb6⟩
        obtain ⟨A6, c6, rfl⟩ := or_shape hor
        rw [← HNN.out]
        have HB6 := Lib.hid (HBW5.out.trans (hb6.mono HBW5.out.size))
        clear hor hb6
        go_wp2
        go_ret
        exact ⟨rfl, HB6.out⟩
end Go.Proofs.YtmdkonfmbbbepaaDoor
