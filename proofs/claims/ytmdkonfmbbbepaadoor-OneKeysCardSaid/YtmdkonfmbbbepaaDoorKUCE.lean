/-
  The contract of the program's Decode (layer one), where keys are read as they are.
-/
import Derived.Test.YtmdkonfmbbbepaaDoorKUCB
import Derived.Test.YtmdkonfmbbbepaaDoorKUCC
import Derived.Test.YtmdkonfmbbbepaaDoorKUCD
set_option linter.unusedVariables false
set_option linter.unusedVariables false
set_option linter.unusedSimpArgs false
namespace Go.On
open Go Go.Rst Go.Tp Go.Ts Go.Tk
theorem getText_len (l : List UInt8) (p most : Int) (hm : 0 ≤ most) : ((getText l p most).1.length : Int) ≤ most := by
  rcases getText_spec l p most with ⟨_, _, _, _, _, h, _⟩ | h
  · exact h
  · rw [h.2.1]; simpa using hm
structure DecIn (n : Nat) (x : Sub) : Prop where
  id : 0 ≤ x.id ∧ x.id ≤ 9999999999
  name : x.name.length ≤ 30
  topic : x.topic.length ≤ 30
  want : x.want.length ≤ 30
  note : x.note.length ≤ 30
  acks : x.acks.length ≤ n
  queue : x.queue.length ≤ n
  ack : ∀ k ∈ x.acks, 0 ≤ k ∧ k ≤ 9999999999
  msg : ∀ m ∈ x.queue, 0 ≤ m.seq ∧ m.seq ≤ 9999999999 ∧ m.body.length ≤ 60 ∧ m.attr.length ≤ 30 ∧ m.why.length ≤ 4
theorem decIn_zero : DecIn 0 noSub := ⟨by decide, by decide, by decide, by decide, by decide, by decide, by decide, fun k h => (by cases h), fun m h => (by cases h)⟩
theorem txA_len (l : List UInt8) (p : Int) : (txA l p 30).1.length ≤ 30 := by
  have := getText_len l p 30 (by omega)
  show (getText l p 30).1.length ≤ 30
  omega
theorem why_len (k : Int) : (whyN k).length ≤ 4 := by unfold whyN; split; decide; split; decide; decide
theorem step_in {n : Nat} {x y : Sub} {r : Rw} (h : DecIn n x) (hs : stepD x r = some y) : DecIn (n + 1) y := by
  unfold stepD at hs
  cases hk : keyD r.1 with
  | none => rw [hk] at hs; cases hs
  | some p =>
    rw [hk] at hs
    obtain ⟨_, _, _, h4, h5, _⟩ := keyD_some hk
    have hs : rdD { x with id := p.2.2.1 } p.2.1 p.2.2.2 r.2 = some y := hs
    have hid : (0 : Int) ≤ (p.2.2.1 : Nat) ∧ ((p.2.2.1 : Nat) : Int) ≤ 9999999999 := by omega
    have hsq : (0 : Int) ≤ (p.2.2.2 : Nat) ∧ ((p.2.2.2 : Nat) : Int) ≤ 9999999999 := by omega
    have a := h.acks
    have q := h.queue
    unfold rdD at hs
    split at hs
    · injection hs with hs; subst hs
      exact ⟨hid, h.name, h.topic, h.want, h.note, by simp; omega, by show x.queue.length ≤ _; omega, fun k hk => by
        rcases List.mem_append.1 hk with hk | hk
        · exact h.ack k hk
        · rw [List.mem_singleton.1 hk]; exact hsq, h.msg⟩
    · split at hs
      · injection hs with hs; subst hs
        exact ⟨hid, h.name, h.topic, h.want, txA_len _ _, by show x.acks.length ≤ _; omega, by show x.queue.length ≤ _; omega, h.ack, h.msg⟩
      · split at hs
        · injection hs with hs; subst hs
          exact ⟨hid, h.name, h.topic, h.want, h.note, by show x.acks.length ≤ _; omega, by simp; omega, h.ack, fun m hm => by
            rcases List.mem_append.1 hm with hm | hm
            · exact h.msg m hm
            · rw [List.mem_singleton.1 hm]
              refine ⟨hsq.1, hsq.2, ?_, txA_len _ _, by show (0 : Nat) ≤ 4; omega⟩
              have := getText_len r.2 0 60 (by omega)
              show (getText r.2 0 60).1.length ≤ 60
              omega⟩
        · split at hs
          · injection hs with hs; subst hs
            exact ⟨hid, txA_len _ _, txA_len _ _, h.want, h.note, by show x.acks.length ≤ _; omega, by show x.queue.length ≤ _; omega, h.ack, h.msg⟩
          · split at hs
            · injection hs with hs; subst hs
              exact ⟨hid, h.name, h.topic, txA_len _ _, h.note, by show x.acks.length ≤ _; omega, by show x.queue.length ≤ _; omega, h.ack, h.msg⟩
            · split at hs
              · injection hs with hs; subst hs
                have hext : ∀ m ∈ extD x.queue (p.2.2.2 : Nat) r.2, 0 ≤ m.seq ∧ m.seq ≤ 9999999999 ∧ m.body.length ≤ 60 ∧ m.attr.length ≤ 30 ∧ m.why.length ≤ 4 := by
                  intro m hm
                  unfold extD at hm
                  split at hm
                  · exact h.msg m hm
                  · rename_i m0 hm0
                    split at hm
                    · rcases List.mem_or_eq_of_mem_set hm with hm | rfl
                      · exact h.msg m hm
                      · obtain ⟨a1, a2, a3, a4, _⟩ := h.msg m0 (List.mem_of_getElem? hm0)
                        exact ⟨a1, a2, a3, a4, why_len _⟩
                    · exact h.msg m hm
                have hlen : (extD x.queue (p.2.2.2 : Nat) r.2).length = x.queue.length := by
                  unfold extD
                  split
                  · rfl
                  · split
                    · exact List.length_set
                    · rfl
                exact ⟨hid, h.name, h.topic, h.want, h.note, by show x.acks.length ≤ _; omega, by show (extD x.queue (p.2.2.2 : Nat) r.2).length ≤ _; omega, h.ack, hext⟩
              · cases hs
theorem in_ok {n : Nat} {x : Sub} (h : DecIn n x) (hn : n ≤ 100000) : EncOk x := by
  have := h.name; have := h.topic; have := h.want; have := h.note; have := h.acks; have := h.queue
  exact ⟨h.id.1, h.id.2, by omega, by omega, by omega, by omega, by omega, by omega, h.ack, fun m hm => by have := h.msg m hm; omega⟩
theorem fold_snoc {l : List Rw} {k : Nat} (hk : k < l.length) {x y : Sub} (h : foldD noSub (l.take k) = some x) (hs : stepD x l[k] = some y) : foldD noSub (l.take (k + 1)) = some y := by
  rw [List.take_succ_eq_append_getElem hk, foldD_app, h, Option.bind_some, foldD_some _ hs]
  rfl
theorem fold_none {l : List Rw} {k : Nat} (hk : k < l.length) {x : Sub} (h : foldD noSub (l.take k) = some x) (hs : stepD x l[k] = none) : foldD noSub l = none := by
  conv => lhs; rw [← List.take_append_drop k l]
  rw [foldD_app, h, Option.bind_some, List.drop_eq_getElem_cons hk, foldD_none _ hs]
theorem dec_not {l : List Rw} (h : ¬ Ris l) : decD l = none := by unfold decD; rw [if_neg h]
theorem dec_none {l : List Rw} (h : foldD noSub l = none) : decD l = none := by
  unfold decD
  split
  · rw [h]
  · rfl
theorem dec_other {l : List Rw} {x : Sub} (h : foldD noSub l = some x) (hs : ¬ l = enc1L x) : decD l = none := by
  unfold decD
  split
  · rw [h]; show (if l = enc1L x then some x else none) = none; rw [if_neg hs]
  · rfl
theorem dec_some {l : List Rw} {x : Sub} (hr : Ris l) (h : foldD noSub l = some x) (hs : l = enc1L x) : decD l = some x := by
  unfold decD
  rw [if_pos hr, h]
  show (if l = enc1L x then some x else none) = some x
  rw [if_pos hs]
end Go.On
namespace Go.Proofs.YtmdkonfmbbbepaaDoor
open Go.RowKit Go.Rst Go.Tp Go.Ts Go.Tk Go.Crc Go.On Go.Pg
def ptV : Option (Nat × UInt8 × Nat × Nat) → Value
  | none => .tuple #[.int .i64 0, .int .u8 0, .int .i64 0, .int .i64 0, .bool false]
  | some p => .tuple #[.int .i64 p.1, .int .u8 p.2.1.toNat, .int .i64 p.2.2.1, .int .i64 p.2.2.2, .bool true]
def GivesPt (k : ByteArray) (W : World) (e : Ending) (w' : World) : Prop := e = .returned (ptV (keyD k)) ∧ Below W.heap.size W w'
def GivesDc (w : World) (o : Option Ts.Sub) (e : Ending) (w' : World) : Prop := ∃ y av qv er, e = .returned (.tuple #[.agg (subC y av qv).toArray, .int .u16 er]) ∧ Go.Ts.RI w' av y.acks ∧ RM w' qv y.queue ∧ Below w.heap.size w w' ∧
  (o = none ∧ er = 11 ∧ y = noSub ∨ o = some y ∧ er = 0)
set_option maxRecDepth 100000 in
set_option maxHeartbeats 16000000 in
theorem decode_any (va : Value) (rs : List (ByteArray × List UInt8)) (w : World) (ha : RR w va rs) (hl : rs.length ≤ 100000) (hp : Pow w)
    (hk : ∀ W, Below w.heap.size w W → ∀ r ∈ rs, Calls Tryd.prog 24 #[.string r.1] W (GivesPt r.1 W)) :
    Calls Tryd.prog 8 #[va] w (GivesDc w (decD rs)) := by
  have HA := Lib.hid ha
  have HP := Lib.hid hp
  have HK := Lib.hid hk
  obtain ⟨A1, c1, rfl, hl1, hc1, _⟩ := ha
  unfold maxLen at hc1
  obtain ⟨Z, hZ⟩ : ∃ Z : List Value, Z = [.int .i64 0, .string ⟨#[]⟩, .string ⟨#[]⟩, .string ⟨#[]⟩, .int .i64 0, .int .i64 0, .int .i64 0, .slice none 0 0, .slice none 0 0, .string ⟨#[]⟩] := ⟨_, rfl⟩
  have HZ := Lib.hid hZ
  have HZC := Lib.hid (show Cub Z by rw [hZ]; exact Cub.mk_ noSub (av := .slice none 0 0) (qv := .slice none 0 0) rfl rfl)
  have HZS := Lib.hid (show (#[.int .i64 0, .string ⟨#[]⟩, .string ⟨#[]⟩, .string ⟨#[]⟩, .int .i64 0, .int .i64 0, .int .i64 0, .slice none 0 0, .slice none 0 0, .string ⟨#[]⟩] : Array Value).size = Z.toArray.size by rw [hZ])
  have HZA := Lib.hid (show (#[.int .i64 0, .string ⟨#[]⟩, .string ⟨#[]⟩, .string ⟨#[]⟩, .int .i64 0, .int .i64 0, .int .i64 0, .slice none 0 0, .slice none 0 0, .string ⟨#[]⟩] : Array Value).all (·.oneCell') = true by simp [Value.oneCell'])
  obtain ⟨W0, hW0⟩ : ∃ W0, W0 = w.alloc (.cells #[.int .i64 0, .string ⟨#[]⟩, .string ⟨#[]⟩, .string ⟨#[]⟩, .int .i64 0, .int .i64 0, .int .i64 0, .slice none 0 0, .slice none 0 0, .string ⟨#[]⟩] 27) := ⟨_, rfl⟩
  have hb0 : Below w.heap.size w W0 := by rw [hW0]; exact (Below.refl _ _).alloc (Nat.le_refl _) _
  have hc0 : Wh W0 w.heap.size [.int .i64 0, .string ⟨#[]⟩, .string ⟨#[]⟩, .string ⟨#[]⟩, .int .i64 0, .int .i64 0, .int .i64 0, .slice none 0 0, .slice none 0 0, .string ⟨#[]⟩] 27 := by rw [hW0]; exact Wh.new w _ _
  have hs0 : W0.heap.size = w.heap.size + 1 := by rw [hW0]; simp
  have HB0 := Lib.hid hb0
  have HC0 := Lib.hid hc0
  have HS0 := Lib.hid hs0
  have HRI := Lib.hid (rising1_any _ rs W0 (rr_below HA.out hb0 (Nat.le_refl _)))
  have ZERO := Lib.hid (fun (W : World) (h1 : Below (w.heap.size + 1) W0 W) (ho : decD rs = none) (Q' : World → Prop) => by
    have hcw := HC0.out.below (by rw [HS0.out]; exact h1)
    refine ⟨hcw, ?_⟩
    refine ⟨noSub, .slice none 0 0, .slice none 0 0, 11, rfl, RL.nil_ _ _ _ (Nat.zero_le _), RL.nil_ _ _ _ (Nat.zero_le _), below_setRow (HB0.out.trans (h1.mono (Nat.le_succ _))) (Nat.le_refl _) _, .inl ⟨ho, rfl, rfl⟩⟩ : ∀ (W : World) (h1 : Below (w.heap.size + 1) W0 W) (ho : decD rs = none) (Q' : World → Prop), Wh W w.heap.size [.int .i64 0, .string ⟨#[]⟩, .string ⟨#[]⟩, .string ⟨#[]⟩, .int .i64 0, .int .i64 0, .int .i64 0, .slice none 0 0, .slice none 0 0, .string ⟨#[]⟩] 27 ∧ GivesDc w (decD rs) (.returned (.tuple #[.agg #[.int .i64 0, .string ⟨#[]⟩, .string ⟨#[]⟩, .string ⟨#[]⟩, .int .i64 0, .int .i64 0, .int .i64 0, .slice none 0 0, .slice none 0 0, .string ⟨#[]⟩], .int .u16 11])) (W.setRow w.heap.size #[.int .i64 0, .string ⟨#[]⟩, .string ⟨#[]⟩, .string ⟨#[]⟩, .int .i64 0, .int .i64 0, .int .i64 0, .slice none 0 0, .slice none 0 0, .string ⟨#[]⟩]))
  clear hp hk hb0 hc0 hs0 hZ
  go_enter Tryd.func8, Tryd.ntmps8
  go_wp2_with fail
  rw [← hW0]
  clear hW0
  refine HRI.out.mono ?_
  rintro e w1 ⟨⟨b, rfl, hbr⟩, hb1⟩
  have HB1 := Lib.hid (show Below (w.heap.size + 1) W0 w1 by rw [← HS0.out]; exact hb1)
  have HS1 := Lib.hid (show w.heap.size + 1 ≤ w1.heap.size by rw [← HS0.out]; exact hb1.size)
  cases b with
  | false =>
    have hno := dec_not (l := rs) (fun h => by have := hbr.2 h; cases this)
    obtain ⟨hcw, hgv⟩ := ZERO.out w1 HB1.out hno (fun _ => True)
    have HCW := Lib.hid hcw
    have HGV := Lib.hid hgv
    clear hbr hno hcw hgv hb1
    go_wp2_with (first | (refine wpList_store_row rfl 27 (.tmp 2) (.tmp 18) rfl w.heap.size #[.int .i64 0, .string ⟨#[]⟩, .string ⟨#[]⟩, .string ⟨#[]⟩, .int .i64 0, .int .i64 0, .int .i64 0, .slice none 0 0, .slice none 0 0, .string ⟨#[]⟩] rfl rfl 27 #[.int .i64 0, .string ⟨#[]⟩, .string ⟨#[]⟩, .string ⟨#[]⟩, .int .i64 0, .int .i64 0, .int .i64 0, .slice none 0 0, .slice none 0 0, .string ⟨#[]⟩] HCW.out size35 rfl HZA.out ?_))
    refine bodyPost_ret (results_row_tmp rfl _ _ w.heap.size [.int .i64 0, .string ⟨#[]⟩, .string ⟨#[]⟩, .string ⟨#[]⟩, .int .i64 0, .int .i64 0, .int .i64 0, .slice none 0 0, .slice none 0 0, .string ⟨#[]⟩] rfl (HCW.out.set [.int .i64 0, .string ⟨#[]⟩, .string ⟨#[]⟩, .string ⟨#[]⟩, .int .i64 0, .int .i64 0, .int .i64 0, .slice none 0 0, .slice none 0 0, .string ⟨#[]⟩]) Tryd.underlying27 rfl size35) rfl ?_
    exact HGV.out
  | true =>
    have HRS := Lib.hid (hbr.1 rfl)
    clear hbr hb1
    go_wp2_with fail
    obtain ⟨rb, hrb⟩ : ∃ rb, rb = w1.heap.size := ⟨_, rfl⟩
    obtain ⟨W2, hW2⟩ : ∃ W2, W2 = w1.alloc (.cells #[.int .i64 0, .string ⟨#[]⟩, .string ⟨#[]⟩, .string ⟨#[]⟩, .int .i64 0, .int .i64 0, .int .i64 0, .slice none 0 0, .slice none 0 0, .string ⟨#[]⟩] 51) := ⟨_, rfl⟩
    have hb2 : Below w1.heap.size w1 W2 := by rw [hW2]; exact (Below.refl _ _).alloc (Nat.le_refl _) _
    have hd2 : Wh W2 rb [.int .i64 0, .string ⟨#[]⟩, .string ⟨#[]⟩, .string ⟨#[]⟩, .int .i64 0, .int .i64 0, .int .i64 0, .slice none 0 0, .slice none 0 0, .string ⟨#[]⟩] 51 := by rw [hW2, hrb]; exact Wh.new w1 _ _
    have hr1 : w.heap.size + 1 ≤ rb := by rw [hrb]; exact HS1.out
    rw [← hW2, ← hrb]
    refine (tables_any rb W2).mono ?_
    rintro e w3 ⟨mb, rfl, hkb, hb3, hmb⟩
    obtain ⟨B, hB⟩ : ∃ B, B = w3.heap.size := ⟨_, rfl⟩
    have hrl := hd2.lt
    have HLT := Lib.hid (show rb < B by have := hb3.size; omega)
    have HRM := Lib.hid (show rb ≠ mb ∧ mb < B by
      refine ⟨by omega, ?_⟩
      obtain ⟨es, clk, h, _⟩ := hkb
      rw [hB]
      exact (Array.getElem?_eq_some_iff.1 h).1)
    have HD3 := Lib.hid (show DR B w3 rb noSub from ⟨.slice none 0 0, .slice none 0 0, hd2.below hb3, World.ownsRow_nil _ _ _ _, OM.nil_ _ _⟩)
    have hb03 : Below (w.heap.size + 1) W0 w3 := (HB1.out.trans (hb2.mono HS1.out)).trans (hb3.mono (by have := hb2.size; have := HS1.out; omega))
    have hltB := HLT.out
    have HX0 := Lib.hid (fun W (h : Ex (AB rb B) w3 W) => hb03.trans (h.below (B := w.heap.size + 1) (fun k hk => by unfold AB at hk; omega) (by omega)) : ∀ W (h : Ex (AB rb B) w3 W), Below (w.heap.size + 1) W0 W)
    have HXW := Lib.hid (fun W (h : Ex (AB rb B) w3 W) => HB0.out.trans ((HX0.out W h).mono (Nat.le_succ _)) : ∀ W (h : Ex (AB rb B) w3 W), Below w.heap.size w W)
    have HKB := Lib.hid (fun W (h : Ex (AB rb B) w3 W) => (by
      obtain ⟨es, clk, h1, h2⟩ := hkb
      exact ⟨es, clk, (h.block mb (by have := HRM.out.2; omega) (by have := HRM.out; unfold AB; omega)).trans h1, h2⟩) : ∀ W (h : Ex (AB rb B) w3 W), KB W mb (tabL (.pointer (some ⟨rb, 0, none⟩))))
    have HBE := Lib.hid (show B = w3.heap.size from hB)
    have HRW := Lib.hid hr1
    obtain ⟨z, hz⟩ : ∃ z, ∀ W, (zeroValue 54).run Tryd.prog W = .ok z W := ⟨_, fun W => by go_simp; rfl⟩
    have HZV := Lib.hid hz
    clear hb2 hd2 hr1 hW2 hrb hkb hb3 hmb hB hrl hb03 hz hltB
    go_wp2_with fail
    go_loopw [22] (fun i wr => ∃ (k : Nat) (x : Ts.Sub), k ≤ rs.length ∧ i = .int .i64 k ∧ foldD noSub (rs.take k) = some x ∧ DecIn k x ∧ DR B wr rb x ∧ Ex (AB rb B) w3 wr) (fun i _ => rs.length - (intOf i).toNat)
    case atStart => exact ⟨0, noSub, Nat.zero_le _, rfl, rfl, decIn_zero, HD3.out, Ex.refl _ _⟩
    case round =>
      obtain ⟨k, x, hk, rfl, hfo, hdi, hdr, hex⟩ := hrel
      have HFO := Lib.hid hfo
      have HDI := Lib.hid hdi
      have HDR := Lib.hid hdr
      have HEX := Lib.hid hex
      clear hfo hdi hdr hex
      by_cases hlt : k < rs.length
      · obtain ⟨b, off, u, rfl, hbl, hrg, hru, hu1⟩ := rr_two HA.out hlt
        have q2 : (k : Int) < (rs.length : Int) := by omega
        have HCL := Lib.hid (HK.out · · rs[k] (List.getElem_mem hlt))
        have HSN := Lib.hid (fun (y : Ts.Sub) (h : stepD x rs[k] = some y) => fold_snoc hlt HFO.out h)
        have HNO := Lib.hid (fun (h : stepD x rs[k] = none) => dec_none (fold_none hlt HFO.out h))
        have HRG := Lib.hid (range_below hrg hbl (HXW.out _ HEX.out))
        have HRU := Lib.hid hru
        have HU1 := Lib.hid hu1
        generalize rs[k] = r at *
        obtain ⟨kk, l⟩ := r
        simp only at HRG HRU
        obtain ⟨Au, cu, hue, _⟩ := HRU.out
        subst hue
        obtain ⟨kd, hkd⟩ : ∃ kd, kd = keyD kk := ⟨_, rfl⟩
        have HKD := Lib.hid hkd.symm
        obtain ⟨R, hR⟩ : ∃ R : List Value, R = [.string kk, .slice Au l.length cu] := ⟨_, rfl⟩
        rw [← hR] at HRG
        have HSL := Lib.hid (show (Tryd.prog.info? 42).map (·.size) = some R.length by rw [hR]; exact size42)
        have HSA := Lib.hid (show (Tryd.prog.info? 42).map (·.size) = some R.toArray.size by rw [hR]; exact size42)
        have HZR := Lib.hid (show (#[.string ⟨#[]⟩, .slice none 0 0] : Array Value).size = R.toArray.size by rw [hR]; rfl)
        have HRO := Lib.hid (show R.toArray.all (·.oneCell') = true by rw [hR]; exact all_oneCell_toArray (by intro v hv; simp only [List.mem_cons, List.not_mem_nil, or_false] at hv; rcases hv with rfl | rfl; rfl; exact hu1))
        obtain ⟨Wa, hWa⟩ : ∃ Wa, Wa = (wr.alloc (.cells #[.string ⟨#[]⟩, .slice none 0 0] 42)).setRow wr.heap.size R.toArray := ⟨_, rfl⟩
        have hba : Below wr.heap.size wr Wa := by rw [hWa]; exact below_setRow ((Below.refl _ wr).alloc (Nat.le_refl _) _) (Nat.le_refl _) _
        have HNA := Lib.hid (Wh.new wr [.string ⟨#[]⟩, .slice none 0 0] 42)
        have hwa : Wh Wa wr.heap.size R 42 := by rw [hWa]; exact HNA.out.set R
        have HRR := Lib.hid (And.intro (show R[0]? = some (.string kk) by rw [hR]; rfl) (show R[1]? = some (.slice Au l.length cu) by rw [hR]; rfl))
        have HWA := Lib.hid hwa
        have HEA := Lib.hid hWa
        have HXA := Lib.hid (HEX.out.trans (Ex.ofBelow hba) : Ex (AB rb B) w3 Wa)
        have HDA := Lib.hid (HDR.out.below hba)
        have HNR := Lib.hid (show wr.heap.size ≠ rb by obtain ⟨_, _, h, _⟩ := HDR.out; have := h.lt; omega)
        have HLA := Lib.hid (show wr.heap.size < Wa.heap.size from hwa.lt)
        have HBW := Lib.hid (show B ≤ wr.heap.size by rw [HBE.out]; exact HEX.out.size)
        have d0 := wh_cell hwa HRR.out.1
        clear hR hWa hba hwa hkd hrg hru hu1
        go_wp2_with (first | (refine wpList_load_midG (by rfl) 42 (.tmp 24) rfl b (off + k * 2) rfl _ _ HRG.out Tryd.underlying42 rfl HSL.out ?_) | (refine wpList_store_row rfl 42 (.tmp 7) (.tmp 25) rfl wr.heap.size R.toArray rfl rfl 42 #[.string ⟨#[]⟩, .slice none 0 0] HNA.out HSA.out HZR.out HRO.out ?_; rw [← HEA.out]))
        refine (HCL.out Wa (HXW.out _ HXA.out)).mono ?_
        rintro e w5 ⟨rfl, hb5⟩
        have HX5 := Lib.hid (HXA.out.trans (Ex.ofBelow hb5) : Ex (AB rb B) w3 w5)
        have HD5 := Lib.hid (HDA.out.below hb5)
        have HW5 := Lib.hid (HWA.out.below hb5)
        have HS5 := Lib.hid hb5.size
        clear d0 hb5
        rw [HKD.out]
        rcases kd with _ | ⟨v, t, i, s⟩
        · have hno := HNO.out (by unfold stepD; rw [HKD.out])
          rw [show ptV none = .tuple #[.int .i64 0, .int .u8 0, .int .i64 0, .int .i64 0, .bool false] from rfl]
          have hget := (HKB.out w5 HX5.out).get Tryd.underlying52 Tryd.underlying5 (HZV.out w5) 0
          rw [show (tabL (.pointer (some ⟨rb, 0, none⟩))).lookup 0 = none from rfl] at hget
          obtain ⟨hcw, hgv⟩ := ZERO.out w5 (HX0.out _ HX5.out) hno (fun _ => True)
          have HCW := Lib.hid hcw
          have HGV := Lib.hid hgv
          clear hno hcw hgv
          go_wp2_with (first | (refine wpList_store_row rfl 27 (.tmp 2) (.tmp 43) rfl w.heap.size #[.int .i64 0, .string ⟨#[]⟩, .string ⟨#[]⟩, .string ⟨#[]⟩, .int .i64 0, .int .i64 0, .int .i64 0, .slice none 0 0, .slice none 0 0, .string ⟨#[]⟩] rfl rfl 27 #[.int .i64 0, .string ⟨#[]⟩, .string ⟨#[]⟩, .string ⟨#[]⟩, .int .i64 0, .int .i64 0, .int .i64 0, .slice none 0 0, .slice none 0 0, .string ⟨#[]⟩] HCW.out size35 rfl HZA.out ?_))
          refine bodyPost_ret (results_row_tmp rfl _ _ w.heap.size [.int .i64 0, .string ⟨#[]⟩, .string ⟨#[]⟩, .string ⟨#[]⟩, .int .i64 0, .int .i64 0, .int .i64 0, .slice none 0 0, .slice none 0 0, .string ⟨#[]⟩] rfl (HCW.out.set [.int .i64 0, .string ⟨#[]⟩, .string ⟨#[]⟩, .string ⟨#[]⟩, .int .i64 0, .int .i64 0, .int .i64 0, .slice none 0 0, .slice none 0 0, .string ⟨#[]⟩]) Tryd.underlying27 rfl size35) rfl ?_
          exact HGV.out
        · rw [show ptV (some (v, t, i, s)) = .tuple #[.int .i64 v, .int .u8 t.toNat, .int .i64 i, .int .i64 s, .bool true] from rfl]
          have hst : stepD x (kk, l) = rdD { x with id := (i : Int) } t (s : Int) l := by unfold stepD; rw [HKD.out]
          have hget := (HKB.out w5 HX5.out).get Tryd.underlying52 Tryd.underlying5 (HZV.out w5) (t.toNat : Int)
          by_cases hin : t = 97 ∨ t = 110 ∨ t = 113 ∨ t = 115 ∨ t = 119 ∨ t = 120
          · obtain ⟨o0, c0⟩ := HD5.out.cell 0 (by omega)
            have z0 := HD5.out.frozen 0
            have c1 := wh_cell HW5.out HRR.out.2
            have hn1 : ¬ wr.heap.size = rb := HNR.out
            have hn2 : ¬ rb = wr.heap.size := Ne.symm HNR.out
            have HD6 := HD5.out.field (i := 0) (v := .int .i64 (i : Int)) (x' := { x with id := (i : Int) }) (fun _ _ => rfl) rfl rfl
            have hx6 : Ex (AB rb B) w3 (w5.setCell ⟨rb, 0, none⟩ (.int .i64 (i : Int))) := HX5.out.trans (HD5.out.ex 0 _)
            obtain ⟨Wf, hWf⟩ : ∃ Wf, Wf = (w5.setCell ⟨rb, 0, none⟩ (.int .i64 (i : Int))).alloc (.cells #[.slice Au l.length cu, .int .i64 0] 58) := ⟨_, rfl⟩
            have hbf : Below (w5.setCell ⟨rb, 0, none⟩ (.int .i64 (i : Int))).heap.size (w5.setCell ⟨rb, 0, none⟩ (.int .i64 (i : Int))) Wf := by rw [hWf]; exact (Below.refl _ _).alloc (Nat.le_refl _) _
            have hxf : Ex (AB rb B) w3 Wf := hx6.trans (Ex.ofBelow hbf)
            have hsf : (w5.setCell ⟨rb, 0, none⟩ (.int .i64 (i : Int))).heap.size = w5.heap.size := by simp
            have hB5 : B ≤ w5.heap.size := by have := HBW.out; have := HLA.out; have := HS5.out; omega
            have HRD := Lib.hid (show RdIn B rb w5.heap.size Wf { x with id := (i : Int) } (.slice Au l.length cu) l from
              ⟨HD6.below hbf, HLT.out, by have := hbf.size; omega, hB5, by rw [hWf, ← hsf]; exact Wh.new _ [.slice Au l.length cu, .int .i64 0] _, fun W hW => HRU.out.below (HXW.out W (hxf.trans hW))⟩)
            have HXF := Lib.hid hxf
            have HWF := Lib.hid hWf
            have hqa := HDI.out.acks
            have hqq := HDI.out.queue
            clear HD6 hx6 hWf hbf hxf hsf hB5
            rcases hin with rfl | rfl | rfl | rfl | rfl | rfl
            · have hst2 : stepD x (kk, l) = some ({ x with id := (i : Int), acks := x.acks ++ [(s : Int)] }) := by rw [hst]; rfl
              have HFS := Lib.hid (HSN.out _ hst2)
              have HIN := Lib.hid (step_in HDI.out hst2)
              have HRX := Lib.hid (rd_ack B rb _ _ _ _ _ (s : Int) HRD.out (by show x.acks.length ≤ _; omega))
              rw [show (((97 : UInt8).toNat : Nat) : Int) = 97 from rfl] at hget ⊢
              rw [show (tabL (.pointer (some ⟨rb, 0, none⟩))).lookup 97 = some (.func (.func 37) #[.pointer (some ⟨rb, 0, none⟩)] #[]) from rfl] at hget
              clear hst hst2 hqa hqq
              go_wp2_with fail
              rw [← HWF.out]
              refine HRX.out.mono ?_
              rintro e w8 ⟨rfl, hd8, hx8⟩
              have HD8 := Lib.hid hd8
              have HX8 := Lib.hid (HXF.out.trans hx8)
              clear hd8 hx8 c0 z0 c1 hget
              go_wp2
              go_roundw
              case rel => exact ⟨k + 1, _, by omega, by go_num, HFS.out, HIN.out, HD8.out, HX8.out⟩
              case measure => simp [intOf]; omega
            · have hst2 : stepD x (kk, l) = some ({ x with id := (i : Int), note := (txA l 0 30).1 }) := by rw [hst]; rfl
              have HFS := Lib.hid (HSN.out _ hst2)
              have HIN := Lib.hid (step_in HDI.out hst2)
              have HRX := Lib.hid (rd_note B rb _ _ _ _ _ (s : Int) HRD.out)
              rw [show (((110 : UInt8).toNat : Nat) : Int) = 110 from rfl] at hget ⊢
              rw [show (tabL (.pointer (some ⟨rb, 0, none⟩))).lookup 110 = some (.func (.func 38) #[.pointer (some ⟨rb, 0, none⟩)] #[]) from rfl] at hget
              clear hst hst2 hqa hqq
              go_wp2_with fail
              rw [← HWF.out]
              refine HRX.out.mono ?_
              rintro e w8 ⟨rfl, hd8, hx8⟩
              have HD8 := Lib.hid hd8
              have HX8 := Lib.hid (HXF.out.trans hx8)
              clear hd8 hx8 c0 z0 c1 hget
              go_wp2
              go_roundw
              case rel => exact ⟨k + 1, _, by omega, by go_num, HFS.out, HIN.out, HD8.out, HX8.out⟩
              case measure => simp [intOf]; omega
            · have hst2 : stepD x (kk, l) = some ({ x with id := (i : Int), queue := x.queue ++ [msgD (s : Int) l] }) := by rw [hst]; rfl
              have HFS := Lib.hid (HSN.out _ hst2)
              have HIN := Lib.hid (step_in HDI.out hst2)
              have HRX := Lib.hid (rd_message B rb _ _ _ _ _ (s : Int) HRD.out (by show x.queue.length ≤ _; omega))
              rw [show (((113 : UInt8).toNat : Nat) : Int) = 113 from rfl] at hget ⊢
              rw [show (tabL (.pointer (some ⟨rb, 0, none⟩))).lookup 113 = some (.func (.func 39) #[.pointer (some ⟨rb, 0, none⟩)] #[]) from rfl] at hget
              clear hst hst2 hqa hqq
              go_wp2_with fail
              rw [← HWF.out]
              refine HRX.out.mono ?_
              rintro e w8 ⟨rfl, hd8, hx8⟩
              have HD8 := Lib.hid hd8
              have HX8 := Lib.hid (HXF.out.trans hx8)
              clear hd8 hx8 c0 z0 c1 hget
              go_wp2
              go_roundw
              case rel => exact ⟨k + 1, _, by omega, by go_num, HFS.out, HIN.out, HD8.out, HX8.out⟩
              case measure => simp [intOf]; omega
            · have hst2 : stepD x (kk, l) = some (subD { x with id := (i : Int) } l) := by rw [hst]; rfl
              have HFS := Lib.hid (HSN.out _ hst2)
              have HIN := Lib.hid (step_in HDI.out hst2)
              have HRX := Lib.hid (rd_sub B rb _ _ _ _ _ (s : Int) HRD.out)
              rw [show (((115 : UInt8).toNat : Nat) : Int) = 115 from rfl] at hget ⊢
              rw [show (tabL (.pointer (some ⟨rb, 0, none⟩))).lookup 115 = some (.func (.func 40) #[.pointer (some ⟨rb, 0, none⟩)] #[]) from rfl] at hget
              clear hst hst2 hqa hqq
              go_wp2_with fail
              rw [← HWF.out]
              refine HRX.out.mono ?_
              rintro e w8 ⟨rfl, hd8, hx8⟩
              have HD8 := Lib.hid hd8
              have HX8 := Lib.hid (HXF.out.trans hx8)
              clear hd8 hx8 c0 z0 c1 hget
              go_wp2
              go_roundw
              case rel => exact ⟨k + 1, _, by omega, by go_num, HFS.out, HIN.out, HD8.out, HX8.out⟩
              case measure => simp [intOf]; omega
            · have hst2 : stepD x (kk, l) = some ({ x with id := (i : Int), want := (txA l 0 30).1 }) := by rw [hst]; rfl
              have HFS := Lib.hid (HSN.out _ hst2)
              have HIN := Lib.hid (step_in HDI.out hst2)
              have HRX := Lib.hid (rd_want B rb _ _ _ _ _ (s : Int) HRD.out)
              rw [show (((119 : UInt8).toNat : Nat) : Int) = 119 from rfl] at hget ⊢
              rw [show (tabL (.pointer (some ⟨rb, 0, none⟩))).lookup 119 = some (.func (.func 41) #[.pointer (some ⟨rb, 0, none⟩)] #[]) from rfl] at hget
              clear hst hst2 hqa hqq
              go_wp2_with fail
              rw [← HWF.out]
              refine HRX.out.mono ?_
              rintro e w8 ⟨rfl, hd8, hx8⟩
              have HD8 := Lib.hid hd8
              have HX8 := Lib.hid (HXF.out.trans hx8)
              clear hd8 hx8 c0 z0 c1 hget
              go_wp2
              go_roundw
              case rel => exact ⟨k + 1, _, by omega, by go_num, HFS.out, HIN.out, HD8.out, HX8.out⟩
              case measure => simp [intOf]; omega
            · have hst2 : stepD x (kk, l) = some ({ x with id := (i : Int), queue := extD x.queue (s : Int) l }) := by rw [hst]; rfl
              have HFS := Lib.hid (HSN.out _ hst2)
              have HIN := Lib.hid (step_in HDI.out hst2)
              have HRX := Lib.hid (rd_extra B rb _ _ _ _ _ (s : Int) HRD.out (by show x.queue.length ≤ _; omega))
              rw [show (((120 : UInt8).toNat : Nat) : Int) = 120 from rfl] at hget ⊢
              rw [show (tabL (.pointer (some ⟨rb, 0, none⟩))).lookup 120 = some (.func (.func 42) #[.pointer (some ⟨rb, 0, none⟩)] #[]) from rfl] at hget
              clear hst hst2 hqa hqq
              go_wp2_with fail
              rw [← HWF.out]
              refine HRX.out.mono ?_
              rintro e w8 ⟨rfl, hd8, hx8⟩
              have HD8 := Lib.hid hd8
              have HX8 := Lib.hid (HXF.out.trans hx8)
              clear hd8 hx8 c0 z0 c1 hget
              go_wp2
              go_roundw
              case rel => exact ⟨k + 1, _, by omega, by go_num, HFS.out, HIN.out, HD8.out, HX8.out⟩
              case measure => simp [intOf]; omega
          · have hno := HNO.out (by
              rw [hst]
              unfold rdD
              rw [if_neg (fun h => hin (by simp [h])), if_neg (fun h => hin (by simp [h])), if_neg (fun h => hin (by simp [h])), if_neg (fun h => hin (by simp [h])), if_neg (fun h => hin (by simp [h])), if_neg (fun h => hin (by simp [h]))])
            have hlk : (tabL (.pointer (some ⟨rb, 0, none⟩))).lookup (t.toNat : Int) = none := by
              have hb : ∀ m : UInt8, (t.toNat : Int) = (m.toNat : Int) → t = m := fun m h => UInt8.toNat_inj.1 (by omega)
              refine lookup_none_kb fun p hp => ?_
              unfold tabL at hp
              simp only [List.mem_cons, List.not_mem_nil, or_false] at hp
              rcases hp with rfl | rfl | rfl | rfl | rfl | rfl
              · exact fun h => hin (.inl (hb 97 h.symm))
              · exact fun h => hin (.inr (.inl (hb 110 h.symm)))
              · exact fun h => hin (.inr (.inr (.inl (hb 113 h.symm))))
              · exact fun h => hin (.inr (.inr (.inr (.inl (hb 115 h.symm)))))
              · exact fun h => hin (.inr (.inr (.inr (.inr (.inl (hb 119 h.symm))))))
              · exact fun h => hin (.inr (.inr (.inr (.inr (.inr (hb 120 h.symm))))))
            rw [hlk] at hget
            obtain ⟨hcw, hgv⟩ := ZERO.out w5 (HX0.out _ HX5.out) hno (fun _ => True)
            have HCW := Lib.hid hcw
            have HGV := Lib.hid hgv
            obtain ⟨tn, htn⟩ : ∃ tn : Int, tn = (t.toNat : Int) := ⟨_, rfl⟩
            rw [← htn] at hget ⊢
            clear hno hcw hgv hlk hst hin htn
            go_wp2_with (first | (refine wpList_store_row rfl 27 (.tmp 2) (.tmp 43) rfl w.heap.size #[.int .i64 0, .string ⟨#[]⟩, .string ⟨#[]⟩, .string ⟨#[]⟩, .int .i64 0, .int .i64 0, .int .i64 0, .slice none 0 0, .slice none 0 0, .string ⟨#[]⟩] rfl rfl 27 #[.int .i64 0, .string ⟨#[]⟩, .string ⟨#[]⟩, .string ⟨#[]⟩, .int .i64 0, .int .i64 0, .int .i64 0, .slice none 0 0, .slice none 0 0, .string ⟨#[]⟩] HCW.out size35 rfl HZA.out ?_))
            refine bodyPost_ret (results_row_tmp rfl _ _ w.heap.size [.int .i64 0, .string ⟨#[]⟩, .string ⟨#[]⟩, .string ⟨#[]⟩, .int .i64 0, .int .i64 0, .int .i64 0, .slice none 0 0, .slice none 0 0, .string ⟨#[]⟩] rfl (HCW.out.set [.int .i64 0, .string ⟨#[]⟩, .string ⟨#[]⟩, .string ⟨#[]⟩, .int .i64 0, .int .i64 0, .int .i64 0, .slice none 0 0, .slice none 0 0, .string ⟨#[]⟩]) Tryd.underlying27 rfl size35) rfl ?_
            exact HGV.out
      · have q2 : ¬ (k : Int) < (rs.length : Int) := by omega
        have hke : rs.take k = rs := List.take_of_length_le (by omega)
        have hfo := HFO.out
        rw [hke] at hfo
        have hx := in_ok HDI.out (by omega : k ≤ 100000)
        obtain ⟨av, qv, hwr, hav, hqv⟩ := HDR.out
        obtain ⟨C, hC⟩ : ∃ C, C = subC x av qv := ⟨_, rfl⟩
        have hra := OI.rl hav
        have hrq := OM.rl hqv
        have HCU := Lib.hid (show Cub C by rw [hC]; exact Cub.mk_ x (rl_one hra) (rl_one hrq))
        have HEN := Lib.hid (by have := encode_any x av qv wr hra hrq hx (HP.out.below (HXW.out _ HEX.out)); rw [← hC] at this; exact this : Calls Tryd.prog 7 #[.agg C.toArray] wr (GivesRw wr (enc1L x)))
        have HRV := Lib.hid (show wr.ownsRow B 3 1 av x.acks.length (x.acks.map iv) from hav)
        have HQV := Lib.hid (show wr.ownsRow B 45 8 qv x.queue.length (x.queue.map msgC).flatten from hqv)
        rw [← hC] at hwr
        have HWR := Lib.hid hwr
        have HCE := Lib.hid hC
        have HFX := Lib.hid hfo
        have HAR := Lib.hid (rr_below HA.out (HXW.out _ HEX.out) (Nat.le_refl _))
        clear hke hfo hx hwr hav hqv hC hra hrq
        go_wp2_with (first | (refine wpList_load_midG (by rfl) 27 (.tmp 56) rfl rb 0 rfl _ _ HWR.out.range Tryd.underlying27 rfl HCU.out.infoL ?_))
        refine HEN.out.mono ?_
        rintro e w6 ⟨v6, rfl, hor, hb6⟩
        have HB6 := Lib.hid hb6
        have HSM := Lib.hid (same_any1 _ v6 rs (enc1L x) w6 (rr_below HAR.out hb6 (Nat.le_refl _)) (OR.rr hor))
        obtain ⟨A6, c6, rfl⟩ := or_shape hor
        clear hor hb6
        go_wp2_with fail
        refine HSM.out.mono ?_
        rintro e w7 ⟨⟨bs, rfl, hbs⟩, hb7⟩
        have HB7 := Lib.hid (HB6.out.trans (hb7.mono HB6.out.size))
        have HX7 := Lib.hid (HEX.out.trans (Ex.ofBelow HB7.out) : Ex (AB rb B) w3 w7)
        clear hb7
        cases bs with
        | false =>
          have hno := dec_other HFX.out (fun h => by have := hbs.2 h; cases this)
          obtain ⟨hcw, hgv⟩ := ZERO.out w7 (HX0.out _ HX7.out) hno (fun _ => True)
          have HCW := Lib.hid hcw
          have HGV := Lib.hid hgv
          clear hno hcw hgv hbs
          go_wp2_with (first | (refine wpList_store_row rfl 27 (.tmp 2) (.tmp 61) rfl w.heap.size #[.int .i64 0, .string ⟨#[]⟩, .string ⟨#[]⟩, .string ⟨#[]⟩, .int .i64 0, .int .i64 0, .int .i64 0, .slice none 0 0, .slice none 0 0, .string ⟨#[]⟩] rfl rfl 27 #[.int .i64 0, .string ⟨#[]⟩, .string ⟨#[]⟩, .string ⟨#[]⟩, .int .i64 0, .int .i64 0, .int .i64 0, .slice none 0 0, .slice none 0 0, .string ⟨#[]⟩] HCW.out size35 rfl HZA.out ?_))
          refine bodyPost_ret (results_row_tmp rfl _ _ w.heap.size [.int .i64 0, .string ⟨#[]⟩, .string ⟨#[]⟩, .string ⟨#[]⟩, .int .i64 0, .int .i64 0, .int .i64 0, .slice none 0 0, .slice none 0 0, .string ⟨#[]⟩] rfl (HCW.out.set [.int .i64 0, .string ⟨#[]⟩, .string ⟨#[]⟩, .string ⟨#[]⟩, .int .i64 0, .int .i64 0, .int .i64 0, .slice none 0 0, .slice none 0 0, .string ⟨#[]⟩]) Tryd.underlying27 rfl size35) rfl ?_
          exact HGV.out
        | true =>
          have HDS := Lib.hid (dec_some HRS.out HFX.out (hbs.1 rfl))
          have HC7 := Lib.hid (HC0.out.below (by rw [HS0.out]; exact HX0.out _ HX7.out) : Wh w7 w.heap.size [.int .i64 0, .string ⟨#[]⟩, .string ⟨#[]⟩, .string ⟨#[]⟩, .int .i64 0, .int .i64 0, .int .i64 0, .slice none 0 0, .slice none 0 0, .string ⟨#[]⟩] 27)
          have HW7 := Lib.hid (HWR.out.below HB7.out)
          have HOL := Lib.hid (show (#[.int .i64 0, .string ⟨#[]⟩, .string ⟨#[]⟩, .string ⟨#[]⟩, .int .i64 0, .int .i64 0, .int .i64 0, .slice none 0 0, .slice none 0 0, .string ⟨#[]⟩] : Array Value).size = C.toArray.size by simp [HCU.out.len])
          clear hbs
          go_wp2_with (first | (refine wpList_load_midG (by rfl) 27 (.tmp 62) rfl rb 0 rfl _ _ HW7.out.range Tryd.underlying27 rfl HCU.out.infoL ?_) | (refine wpList_store_row rfl 27 (.tmp 2) (.tmp 63) rfl w.heap.size C.toArray rfl rfl 27 #[.int .i64 0, .string ⟨#[]⟩, .string ⟨#[]⟩, .string ⟨#[]⟩, .int .i64 0, .int .i64 0, .int .i64 0, .slice none 0 0, .slice none 0 0, .string ⟨#[]⟩] HC7.out HCU.out.info HOL.out HCU.out.all ?_))
          refine bodyPost_ret (results_row_tmp rfl _ _ w.heap.size C rfl (HC7.out.set C) Tryd.underlying27 rfl HCU.out.infoL) rfl ?_
          have hg := grown_row w7 w.heap.size C.toArray
          have hce := HCE.out
          rw [HDS.out]
          refine ⟨x, av, qv, 0, by rw [hce]; rfl, ?_, ?_, below_setRow (HXW.out _ HX7.out) (Nat.le_refl _) _, .inr ⟨rfl, rfl⟩⟩
          · exact OI.rl (base := B) (show OI B _ av x.acks from own_wh (own_below HRV.out HB7.out) HC7.out (by decide) hg)
          · exact OM.rl (base := B) (show OM B _ qv x.queue from own_wh (own_below HQV.out HB7.out) HC7.out (by decide) hg)
end Go.Proofs.YtmdkonfmbbbepaaDoor
