/-
  The statements' known (layer one): it is so.
-/
import Derived.Test.YtmdkonfmbbbepaaDoorKUCE
import Derived.Test.YtmdkonfmbbbepaaDoorKUCF
set_option linter.unusedVariables false
set_option linter.unusedVariables false
set_option linter.unusedSimpArgs false
namespace Go.Proofs.YtmdkonfmbbbepaaDoor
open Go.RowKit Go.Rst Go.Tp Go.Ts Go.Tk Go.Crc Go.On Go.Pg
theorem parts_ky (t : UInt8) (id s : Int) (ht : 97 ≤ t.toNat ∧ t.toNat ≤ 122) (hi : 0 ≤ id ∧ id ≤ 9999999999) (hs : 0 ≤ s ∧ s ≤ 9999999999) (W : World) (hp : Pow W) : Calls Tryd.prog 24 #[.string (ky t id s)] W (GivesPt (ky t id s) W) := by
  have hk : IsKey (ky t id s) (1, t, id.toNat, s.toNat) := ⟨by show (1 : Nat) < 10; decide, ht.1, ht.2, by show id.toNat ≤ _; omega, by show s.toNat ≤ _; omega, rfl⟩
  unfold GivesPt
  rw [keyD_spec hk]
  exact parts_any 1 t id.toNat s.toNat (by decide) ht.1 ht.2 (by omega) (by omega) W hp
theorem parts_rows {x : Ts.Sub} (h : BackOk x) {w : World} (hp : Pow w) : ∀ W, Below w.heap.size w W → ∀ r ∈ enc1L x, Calls Tryd.prog 24 #[.string r.1] W (GivesPt r.1 W) := by
  intro W hb r hr
  obtain ⟨t, s, h1, h2, h3, h4, h5, _⟩ := enc_rows h r hr
  rw [h5]
  exact parts_ky t x.id s ⟨h1, h2⟩ h.id ⟨h3, h4⟩ W (hp.below hb)
theorem decode_enc {x : Ts.Sub} (h : BackOk x) (ha : x.acks.length ≤ 1000) (hq : x.queue.length ≤ 1000) {v : Value} {W : World} (hv : RR W v (enc1L x)) (hp : Pow W) : Calls Tryd.prog 8 #[v] W (GivesDc W (some x)) := by
  have hl : (enc1L x).length ≤ 100000 := by
    unfold enc1L acksL noteL queL subL wantL extL
    have := List.length_filter_le extB x.queue
    simp only [List.length_append, List.length_map, List.length_cons, List.length_nil]
    split <;> split <;> simp <;> omega
  have := decode_any v (enc1L x) W hv hl hp (parts_rows h hp)
  rw [enc_dec h] at this
  exact this
set_option maxRecDepth 100000 in
set_option maxHeartbeats 8000000 in
theorem known12_any (w : World) (hp : Pow w) : Calls Tryd.prog 11 #[] w fun e w' => e = .returned (.bool true) ∧ Below w.heap.size w w' := by
  have HE := Lib.hid (encode_any k0S (.slice none 0 0) (.slice none 0 0) w (RL.nil_ _ _ _ (Nat.zero_le _)) (RL.nil_ _ _ _ (Nat.zero_le _)) (back_enc k0_back (by decide) (by decide)) hp)
  have HP := Lib.hid hp
  clear hp
  go_enter Tryd.func11, Tryd.ntmps11
  go_wp2_with fail
  refine HE.out.mono ?_
  rintro e w1 ⟨v1, rfl, hor, hb1⟩
  have hd := decode_enc k0_back (by decide) (by decide) (OR.rr hor) (HP.out.below hb1)
  obtain ⟨A1, c1, rfl⟩ := or_shape hor
  rw [k0_len] at hd ⊢
  have HD := Lib.hid hd
  have HB1 := Lib.hid hb1
  clear hd hor hb1
  go_wp2_with fail
  refine HD.out.mono ?_
  rintro e w2 ⟨y, av, qv, er, rfl, hra, hrq, hb2, hres⟩
  rcases hres with ⟨h, _⟩ | ⟨h, rfl⟩
  · cases h
  injection h with h
  subst h
  have HB2 := Lib.hid (HB1.out.trans (hb2.mono HB1.out.size))
  obtain ⟨C, hC⟩ : ∃ C, C = subC k0S av qv := ⟨_, rfl⟩
  have HCU := Lib.hid (show Cub C by rw [hC]; exact Cub.mk_ k0S (rl_one hra) (rl_one hrq))
  have HC0 := Lib.hid (show C[0]? = some (.int .i64 1) by rw [hC]; rfl)
  have HC1 := Lib.hid (show C[1]? = some (sv [110]) by rw [hC]; rfl)
  rw [← hC]
  clear hra hrq hb2 hC
  have HBX := Lib.hid (box_below w2 C)
  have HWX := Lib.hid (box_wh w2 C)
  have HD2 := Lib.hid (by have := decode_any (.slice none 0 0) [] (boxW w2 C) (rr_nil _) (by simp) (HP.out.below (HB2.out.trans (HBX.out.mono HB2.out.size))) (fun _ _ r hr => by cases hr); rw [dec_nil] at this; exact this)
  go_wp2_with (first | (refine wpList_store_row rfl 27 (.tmp 2) (.tmp 11) rfl w2.heap.size C.toArray rfl rfl 27 #[.int .i64 0, .string ⟨#[]⟩, .string ⟨#[]⟩, .string ⟨#[]⟩, .int .i64 0, .int .i64 0, .int .i64 0, .slice none 0 0, .slice none 0 0, .string ⟨#[]⟩] (box_old w2) HCU.out.info HCU.out.old HCU.out.all ?_; rw [box_def]))
  refine HD2.out.mono ?_
  rintro e w3 ⟨y, av3, qv3, er, rfl, hra3, hrq3, hb3, hres⟩
  rcases hres with ⟨_, rfl, rfl⟩ | ⟨h, _⟩
  case inr => cases h
  obtain ⟨D, hD⟩ : ∃ D, D = subC noSub av3 qv3 := ⟨_, rfl⟩
  have HDU := Lib.hid (show Cub D by rw [hD]; exact Cub.mk_ noSub (rl_one hra3) (rl_one hrq3))
  rw [← hD]
  have HW3 := Lib.hid ((HWX.out.below hb3).below (box_below w3 D))
  have d0 := wh_cell HW3.out HC0.out
  have d1 := wh_cell HW3.out HC1.out
  have HBE := Lib.hid (HB2.out.trans ((HBX.out.trans ((hb3.trans ((box_below w3 D).mono hb3.size)).mono HBX.out.size)).mono HB2.out.size))
  clear hra3 hrq3 hb3 hD
  go_wp2_with (first | (refine wpList_store_row rfl 27 (.tmp 4) (.tmp 15) rfl w3.heap.size D.toArray rfl rfl 27 #[.int .i64 0, .string ⟨#[]⟩, .string ⟨#[]⟩, .string ⟨#[]⟩, .int .i64 0, .int .i64 0, .int .i64 0, .slice none 0 0, .slice none 0 0, .string ⟨#[]⟩] (box_old w3) HDU.out.info HDU.out.old HDU.out.all ?_; rw [box_def]))
  go_ret
  exact ⟨rfl, HBE.out⟩
end Go.Proofs.YtmdkonfmbbbepaaDoor
