/-
  The contract of the program's row (layer one): a key, and texts and numbers one behind the other.; Rows of the call's own, one more (layer one); the contract of the program's acks.; The contracts of the program's note and want (layer one).; The contract of the program's sub (layer one).; What a call may turn, beside what is new (layer one); the contracts of the program's form: a text, a number.; What a reader has read so far, in its box (layer one); the contracts of the program's readers ack, note, want, sub.; The contracts of cmp.Compare of numbers, of what the program compares a message's number with, and of slices.BinarySearchFunc with it (layer one).; The contracts of cmp.Compare of numbers, of what the program compares a message's number with, and of slices.BinarySearchFunc with it (layer one).; The contracts of the program's readers message and extra (layer one).; The contracts of the program's readers extra (layer one).
-/
import Derived.Test.YtmdkonfmbbbepaaDoorKUJ
import Derived.Test.YtmdkonfmbbbepaaDoorKUBC
import Derived.Test.YtmdkonfmbbbepaaDoorKUBI
set_option linter.unusedVariables false
set_option linter.unusedVariables false
namespace Go.Proofs.YtmdkonfmbbbepaaDoor
open Go.RowKit Go.Rst Go.Tp Go.Ts Go.Tk Go.Crc Go.On
def PSn (w : World) (v : Value) (ps : List (Value × List UInt8)) : Prop := (v = .slice none 0 0 ∧ ps = []) ∨ PS w v ps
theorem PS.below {w w' : World} {v : Value} {ps : List (Value × List UInt8)} (h : PS w v ps) (hb : Below w.heap.size w w') : PS w' v ps := by
  obtain ⟨g, off, c, h1, h2, h3, h4, h5⟩ := h
  exact ⟨g, off, c, h1, h2, h3, Nat.lt_of_lt_of_le h4 hb.size, fun j hj => ⟨(hb.cell (p := ⟨g, off + j, none⟩) h4).trans (h5 j hj).1, (h5 j hj).2.below hb⟩⟩
theorem PSn.below {w w' : World} {v : Value} {ps : List (Value × List UInt8)} (h : PSn w v ps) (hb : Below w.heap.size w w') : PSn w' v ps := h.imp id (·.below hb)
theorem PS.made {w : World} {vs : List Value} {ls : List (List UInt8)} {e : TypeId} {n : Nat} (hn : vs.length = n) (hl : ls.length = n) (hm : n ≤ 1000) (h : ∀ j (h1 : j < vs.length) (h2 : j < ls.length), RB w vs[j] ls[j]) :
    PS (w.alloc (.cells vs.toArray e)) (.slice (some ⟨w.heap.size, 0, none⟩) n n) (vs.zip ls) := by
  have hz : (vs.zip ls).length = n := by rw [List.length_zip]; omega
  refine ⟨w.heap.size, 0, n, by rw [hz], by omega, by unfold maxLen; omega, by simp, fun j hj => ?_⟩
  have hc := cell_of_row (w.alloc (.cells vs.toArray e)) w.heap.size (0 + j) vs.toArray e (0, 0) (heap_alloc_new w _)
  have h1 : j < vs.length := by omega
  have h2 : j < ls.length := by omega
  rw [hc, List.getElem_zip]
  exact ⟨by simp [h1], (h j h1 h2).alloc _⟩
set_option maxRecDepth 100000 in
set_option maxHeartbeats 1000000 in
theorem concat_nil (w : World) : Calls Tryd.prog 51 #[.slice none 0 0] w (NewB 5 w []) := by
  go_enter Tryd.func51, Tryd.ntmps51
  go_wp2
  go_loop [3, 11] (fun n i => i = .int .i64 0 ∧ n = .int .i64 0) (fun _ i => 0)
  case atStart => exact ⟨rfl, rfl⟩
  case round =>
    obtain ⟨rfl, rfl⟩ := hrel
    go_wp2_with fail
    refine (grow_any 0 (by omega) _).mono ?_
    rintro e w1 ⟨v1, rfl, hown, hbel⟩
    have HO := Lib.hid hown
    have HB := Lib.hid hbel
    clear hown hbel
    go_wp2
    go_loopw [6, 27] (fun b i wr => i = .int .i64 0 ∧ wr.ownsRow w.heap.size 5 1 b 0 [] ∧ Below w.heap.size w wr) (fun _ i _ => 0)
    case atStart => exact ⟨rfl, HO.out, HB.out⟩
    case round =>
      clear HO HB
      obtain ⟨rfl, hown, hbel⟩ := hrel
      have HO := Lib.hid hown
      have HB := Lib.hid hbel
      clear hown hbel
      go_wp2
      go_ret
      exact ⟨_, rfl, HO.out, HB.out⟩
theorem concatN_any (v : Value) (ps : List (Value × List UInt8)) (w : World) (hv : PSn w v ps) (hl : (cat ps).length ≤ 1000000) : Calls Tryd.prog 51 #[v] w (NewB 5 w (cat ps)) := by
  rcases hv with ⟨rfl, rfl⟩ | h
  · exact concat_nil w
  · exact concat_any v ps w h hl
theorem size42 : (Tryd.prog.info? 42).map (·.size) = some 2 := by kernel_rfl
def GivesR (w : World) (k : ByteArray) (l : List UInt8) (e : Ending) (w' : World) : Prop := ∃ u, e = .returned (.agg #[.string k, u]) ∧ FB 5 w' w.heap.size u l ∧ Below w.heap.size w w'
set_option maxRecDepth 100000 in
set_option maxHeartbeats 2000000 in
theorem row_any (C : List Value) (hC : Cub C) (id : Int) (h0 : C[0]? = some (.int .i64 id)) (hi : 0 ≤ id ∧ id ≤ 9999999999) (t : UInt8) (seq : Int) (hs : 0 ≤ seq ∧ seq ≤ 9999999999) (fv : Value) (ps : List (Value × List UInt8)) (w : World)
    (hf : PSn w fv ps) (hl : (cat ps).length ≤ 1000000) (hp : Pow w) : Calls Tryd.prog 33 #[.agg C.toArray, .int .u8 t.toNat, .int .i64 seq, fv] w (GivesR w (ky t id seq) (cat ps)) := by
  obtain ⟨D, rfl⟩ : ∃ D, C = .int .i64 id :: D := by
    cases C with
    | nil => simp at h0
    | cons c D => exact ⟨D, by simpa using h0⟩
  obtain ⟨W1, hW1⟩ : ∃ W1, W1 = (w.alloc (.cells (.int .i64 id :: D : List Value).toArray 27)).alloc (.cells #[.string ⟨#[]⟩, .slice none 0 0] 42) := ⟨_, rfl⟩
  have hb1 : Below w.heap.size w W1 := by rw [hW1]; exact below_two w _ _ _ _
  have hsz : W1.heap.size = w.heap.size + 2 := by rw [hW1]; simp
  have hx : Wh W1 w.heap.size (.int .i64 id :: D) 27 := by rw [hW1]; exact (Wh.new w _ _).alloc _
  have hr : Wh W1 (w.heap.size + 1) [.string ⟨#[]⟩, .slice none 0 0] 42 := by
    have := Wh.new (w.alloc (.cells (.int .i64 id :: D : List Value).toArray 27)) [.string ⟨#[]⟩, .slice none 0 0] 42
    rw [World.size_alloc] at this
    rw [hW1]; exact this
  have HK := Lib.hid (fun W (h : Below w.heap.size w W) => by have := key_any 1 t id.toNat seq.toNat (by decide) (by omega) (by omega) W (hp.below h); rw [show ((id.toNat : Nat) : Int) = id by omega, show ((seq.toNat : Nat) : Int) = seq by omega] at this; exact this : ∀ W (h : Below w.heap.size w W), Calls Tryd.prog 43 #[.int .i64 1, .int .u8 t.toNat, .int .i64 id, .int .i64 seq] W fun e w' => e = .returned (.string (ky t id seq)) ∧ Below W.heap.size W w')
  have HC := Lib.hid (fun W (h : Below w.heap.size w W) => concatN_any fv ps W (hf.below h) hl)
  have HB1 := Lib.hid hb1
  have HR := Lib.hid hr
  have HSZ := Lib.hid hsz
  clear hf hl hp hb1 hx hr h0 hsz
  obtain ⟨k, hk⟩ : ∃ k, k = ky t id seq := ⟨_, rfl⟩
  rw [← hk] at HK ⊢
  clear hk
  have HI := Lib.hid hi
  have HS := Lib.hid hs
  clear hi hs
  go_enter Tryd.func33, Tryd.ntmps33
  go_wp2_with fail
  rw [← hW1]
  clear hW1
  go_wp2_with fail
  refine (HK.out _ HB1.out).mono ?_
  rintro e w2 ⟨rfl, hb2⟩
  have HB2 := Lib.hid (HB1.out.trans (hb2.mono HB1.out.size))
  have HR2 := Lib.hid (HR.out.below hb2)
  have HS2 := Lib.hid (show w.heap.size + 2 ≤ w2.heap.size by rw [← HSZ.out]; exact hb2.size)
  clear hb2 HR
  go_wp2_with fail
  refine (HC.out _ HB2.out).mono ?_
  rintro e w3 ⟨u, rfl, hown, hb3⟩
  have HU := Lib.hid (FB.own hown)
  obtain ⟨A, cc, rfl⟩ := HU.out.shape
  have HB3 := Lib.hid (HB2.out.trans (hb3.mono HB2.out.size))
  have HR3 := Lib.hid (HR2.out.below hb3)
  clear hown hb3 HR2
  have HON := Lib.hid (show (#[.string k, .slice A (cat ps).length cc] : Array Value).all (·.oneCell') = true by simp [Value.oneCell'])
  go_wp2_with (refine wpList_store_row rfl 42 (.tmp 8) (.tmp 16) rfl (w.heap.size + 1) #[.string k, .slice A (cat ps).length cc] rfl rfl 42 #[.string ⟨#[]⟩, .slice none 0 0] HR3.out size42 rfl HON.out ?_)
  refine bodyPost_ret (results_cell_row rfl _ _ (w.heap.size + 1) 42 #[.string k, .slice A (cat ps).length cc] (0, 0) _ rfl (setRow_heap w3 (w.heap.size + 1) _ _ _ (0, 0) HR3.out) Tryd.underlying42 rfl size42) rfl ?_
  refine ⟨_, rfl, ?_, below_setRow HB3.out (by omega) _⟩
  have h2 := HS2.out
  exact (HU.out.base_ (base' := w.heap.size) (by omega)).block_ fun g cur fr hg => (setRow_other w3 (w.heap.size + 1) g _ (by
    intro e
    subst e
    have h5 : w3.heap[w.heap.size + 1]? = _ := HR3.out
    rw [hg] at h5
    injection h5 with h5
    injection h5 with _ h6 _
    exact absurd h6 (by decide))).trans hg
end Go.Proofs.YtmdkonfmbbbepaaDoor
set_option linter.unusedVariables false
set_option linter.unusedSimpArgs false
namespace Go.Proofs.YtmdkonfmbbbepaaDoor
open Go.RowKit Go.Rst Go.Tp Go.Ts Go.Tk Go.Crc Go.On Go.Pg
def GivesRw (w : World) (rs : List (ByteArray × List UInt8)) (e : Ending) (w' : World) : Prop := ∃ u, e = .returned u ∧ OR 5 42 w' w.heap.size u rs ∧ Below w.heap.size w w'
theorem GivesRw.mk {w w' : World} {rs : List (ByteArray × List UInt8)} {u : Value} (h : OR 5 42 w' w.heap.size u rs) (hb : Below w.heap.size w w') : GivesRw w rs (.returned u) w' := ⟨u, rfl, h, hb⟩
theorem fb_alloc {e : TypeId} {w : World} {base : Nat} {v : Value} {l : List UInt8} (h : FB e w base v l) (o : Obj) : FB e (w.alloc o) base v l := h.below ((Below.refl _ w).alloc (Nat.le_refl _) o)
theorem or_lit {w : World} {base : Nat} {k : ByteArray} {u : Value} {l : List UInt8} (hu : FB 5 w base u l) (hb : base ≤ w.heap.size) : OR 5 42 (w.alloc (.cells #[.string k, u] 42)) base (.slice (some ⟨w.heap.size, 0, none⟩) 1 1) [(k, l)] := by
  refine ⟨[(k, l, u)], rfl, ⟨by simp [rowCells], .inr ⟨w.heap.size, 1, #[.string k, u], rfl, hb, heap_alloc_new w _, Nat.le_refl _, by unfold maxLen; omega, rfl, by simp [rowCells]⟩⟩, fun x hx => ?_⟩
  rw [List.mem_singleton.1 hx]
  exact hu.below ((Below.refl _ w).alloc (Nat.le_refl _) _)
structure InB (W0 w : World) (C : List Value) (x : Ts.Sub) (av qv : Value) : Prop where
  eq : C = subC x av qv
  cub : Cub C
  bel : Below w.heap.size w W0
  wh : Wh W0 w.heap.size C 27
  ra : Go.Ts.RI w av x.acks
  rq : RM w qv x.queue
  ok : EncOk x
  pw : Pow w
  size : W0.heap.size = w.heap.size + 1
theorem InB.mk_ {w : World} {x : Ts.Sub} {av qv : Value} (ha : Go.Ts.RI w av x.acks) (hq : RM w qv x.queue) (hx : EncOk x) (hp : Pow w) : InB (w.alloc (.cells (subC x av qv).toArray 27)) w (subC x av qv) x av qv :=
  ⟨rfl, Cub.mk_ x (rl_one ha) (rl_one hq), (Below.refl _ w).alloc (Nat.le_refl _) _, Wh.new w _ _, ha, hq, hx, hp, by simp⟩
theorem InB.cell {W0 w : World} {C : List Value} {x : Ts.Sub} {av qv : Value} (h : InB W0 w C x av qv) {W : World} (hb : Below W0.heap.size W0 W) {i : Nat} {v : Value} (hv : (subC x av qv)[i]? = some v) : W.cell? ⟨w.heap.size, i, none⟩ = some v := by
  have hl := (List.getElem?_eq_some_iff.1 hv).1
  have := (h.wh.below hb).bx.cell (i := i) (by rw [h.eq]; exact hl)
  rw [this]
  obtain ⟨h1, h2⟩ := List.getElem?_eq_some_iff.1 hv
  have he := h.eq
  subst he
  rw [h2]
theorem InB.range {W0 w : World} {C : List Value} {x : Ts.Sub} {av qv : Value} (h : InB W0 w C x av qv) {W : World} (hb : Below W0.heap.size W0 W) : W.rangeAt w.heap.size 0 C := (h.wh.below hb).range
theorem InB.row {W0 w : World} {C : List Value} {x : Ts.Sub} {av qv : Value} (h : InB W0 w C x av qv) {W : World} (hb : Below W0.heap.size W0 W) (t : UInt8) (tv : Int) (ht : tv = (t.toNat : Int)) (seq : Int) (hs : 0 ≤ seq ∧ seq ≤ 9999999999) (fv : Value) (ps : List (Value × List UInt8))
    (hf : PSn W fv ps) (hl : (cat ps).length ≤ 1000000) : Calls Tryd.prog 33 #[.agg C.toArray, .int .u8 tv, .int .i64 seq, fv] W (GivesR W (ky t x.id seq) (cat ps)) := by
  subst ht
  have hbw : Below w.heap.size w W := h.bel.trans (hb.mono h.bel.size)
  exact row_any C h.cub x.id (by rw [h.eq]; rfl) ⟨h.ok.id0, h.ok.id1⟩ t seq hs fv ps W hf hl (h.pw.below hbw)
set_option maxRecDepth 100000 in
set_option maxHeartbeats 4000000 in
theorem acks_any (x : Ts.Sub) (av qv : Value) (w : World) (ha : Go.Ts.RI w av x.acks) (hq : RM w qv x.queue) (hx : EncOk x) (hp : Pow w) :
    Calls Tryd.prog 16 #[.agg (subC x av qv).toArray] w (GivesRw w (acksL x.id x.acks)) := by
  have hI := InB.mk_ ha hq hx hp
  obtain ⟨Aa, ka, rfl, hka, ham⟩ := ha.shape
  unfold maxLen at ham
  obtain ⟨W0, hW0⟩ : ∃ W0, W0 = w.alloc (.cells (subC x (.slice Aa x.acks.length ka) qv).toArray 27) := ⟨_, rfl⟩
  rw [← hW0] at hI
  obtain ⟨C, hC⟩ : ∃ C, C = subC x (.slice Aa x.acks.length ka) qv := ⟨_, rfl⟩
  rw [← hC] at hI hW0 ⊢
  have HI := Lib.hid hI
  have HA := Lib.hid ha
  have c7 := hI.cell (Below.refl _ _) (i := 7) rfl
  have hal := hx.acks
  have d7 : C[7]? = some (.slice Aa x.acks.length ka) := by rw [hC]; rfl
  have HAK := Lib.hid hx.ack
  obtain ⟨id, hid⟩ : ∃ id, id = x.id := ⟨_, rfl⟩
  obtain ⟨ns, hns⟩ : ∃ ns, ns = x.acks := ⟨_, rfl⟩
  rw [← hns] at c7 d7 hal HAK HA hka ⊢
  rw [← hid]
  have HID := Lib.hid hid
  clear hI ha hq hx hp hC hid hns
  go_enter Tryd.func16, Tryd.ntmps16
  go_wp2_with fail
  rw [← hW0]
  clear hW0 d7
  go_loopw [3, 9] (fun lv i wr => ∃ k : Nat, k ≤ ns.length ∧ i = .int .i64 k ∧ OR 5 42 wr W0.heap.size lv (acksL id (ns.take k)) ∧ Below W0.heap.size W0 wr) (fun _ i _ => ns.length - (intOf i).toNat)
  case atStart => exact ⟨0, Nat.zero_le _, rfl, OR.nil_ _ _ _ _, Below.refl _ _⟩
  case round =>
    clear c7
    obtain ⟨k, hk, rfl, hor, hbel⟩ := hrel
    obtain ⟨us, hus, ho, hfs⟩ := hor
    have husl : us.length ≤ 100000 := by have := congrArg List.length hus; simp [acksL] at this; omega
    have HUS := Lib.hid hus
    have HO := Lib.hid ho
    have HFS := Lib.hid hfs
    have HB := Lib.hid hbel
    obtain ⟨Ao, co, rfl, _⟩ := own_shape ho
    clear hus ho hfs hbel
    by_cases hlt : k < ns.length
    · have q2 : (k : Int) < (ns.length : Int) := by omega
      have hbw : Below w.heap.size w wr := HI.out.bel.trans (HB.out.mono HI.out.bel.size)
      obtain ⟨b, off, rfl, hc⟩ := ri_at (HA.out.below stays_ci hbw) hlt
      have hnk := HAK.out ns[k] (List.getElem_mem hlt)
      have htk := acks_snoc id (ns.take k) ns[k]
      rw [← List.take_succ_eq_append_getElem hlt] at htk
      obtain ⟨n, hn⟩ : ∃ n, n = ns[k] := ⟨_, rfl⟩
      rw [← hn] at hc hnk htk
      have HTK := Lib.hid htk
      have HROW := Lib.hid (HI.out.row HB.out 97 97 rfl n hnk (.slice none 0 0) [] (.inl ⟨rfl, rfl⟩) (by simp [cat]))
      have HRG := Lib.hid (HI.out.range HB.out)
      clear hn htk hbw hnk
      go_wp2_with (first | (refine wpList_load_midG (by rfl) 27 (.tmp 1) rfl w.heap.size 0 rfl _ _ HRG.out Tryd.underlying27 rfl HI.out.cub.infoL ?_))
      refine HROW.out.mono ?_
      rintro e w5 ⟨u, rfl, hu, hb5⟩
      have hu : FB 5 w5 wr.heap.size u [] := hu
      rw [← HID.out]
      obtain ⟨ky0, hky⟩ : ∃ ky0, ky0 = ky 97 id n := ⟨_, rfl⟩
      rw [← hky]
      have HU := Lib.hid (hu.base_ (base' := W0.heap.size) HB.out.size)
      have HUO := Lib.hid (show u.oneCell' = true from fb_one hu)
      have HKY := Lib.hid hky
      have HO5 := Lib.hid (own_below HO.out hb5)
      have HF5 := Lib.hid (fun y hy => (HFS.out y hy).below hb5 : ∀ y ∈ us, FB 5 w5 W0.heap.size y.2.2 y.2.1)
      have HB5 := Lib.hid (HB.out.trans (hb5.mono HB.out.size))
      have HSR := Lib.hid (fun (W : World) => src_cells (P := Tryd.prog) W rfl Tryd.underlying29 42 [.string ky0, u] (fun v hv => by simp at hv; rcases hv with rfl | rfl; rfl; exact HUO.out))
      clear hu hb5 hky
      go_wp2_with (at_builtin; refine wpList_own rfl (.tmp 13) (.tmp 17) 29 29 rfl W0.heap.size 42 _ 2 40 Tryd.underlying29 info42 rfl rfl (HO5.out.alloc _) rfl (HSR.out w5) (HB5.out.alloc HB5.out.size _) (Nat.le_refl _) ?_ ?_ ?_ ?_)
      · unfold maxLen; omega
      · omega
      · have := HB5.out.size; (first | omega | (simp; omega))
      · intro v8 w8 hown8 hbel8 hgr
        have hor8 := OR.push (e := 5) (by decide) (HO5.out.alloc (.cells #[.string ky0, u] 42)) (fun y hy => fb_alloc (HF5.out y hy) _) (fb_alloc HU.out _) hown8 hgr
        rw [HUS.out, HKY.out, ← HTK.out] at hor8
        have HOR8 := Lib.hid hor8
        have HB8 := Lib.hid hbel8
        obtain ⟨A8, c8, rfl, _⟩ := own_shape hown8
        clear hown8 hbel8 hgr hor8
        go_wp2
        go_roundw
        case rel => exact ⟨k + 1, by omega, by go_num, HOR8.out, HB8.out⟩
        case measure => simp [intOf]; omega
    · have q2 : ¬ (k : Int) < (ns.length : Int) := by omega
      have hke : ns.take k = ns := List.take_of_length_le (by omega)
      have hus2 := HUS.out
      rw [hke] at hus2
      have HUS2 := Lib.hid hus2
      clear hke hus2 HUS
      go_wp2
      go_ret
      refine GivesRw.mk ?_ (HI.out.bel.trans (HB.out.mono HI.out.bel.size))
      rw [← HUS2.out]
      exact OR.base_ ⟨us, rfl, HO.out, HFS.out⟩ HI.out.bel.size
end Go.Proofs.YtmdkonfmbbbepaaDoor
set_option linter.unusedVariables false
set_option linter.unusedSimpArgs false
namespace Go.Proofs.YtmdkonfmbbbepaaDoor
open Go.RowKit Go.Rst Go.Tp Go.Ts Go.Tk Go.Crc Go.On Go.Pg
theorem textS_any (l : List UInt8) (hl : l.length ≤ 300000) (W : World) : Calls Tryd.prog 34 #[sv l] W (NewB 5 W (textL l)) := codeText_any ⟨l.toArray⟩ (by show l.toArray.size ≤ _; rw [List.size_toArray]; omega) W
theorem textL_le {l : List UInt8} (hl : l.length ≤ 300000) : (textL l).length ≤ 300008 := by
  unfold textL
  rw [List.length_append]
  have := numL_len8 (n := l.length) (by omega)
  omega
theorem nL_le (n : Int) : (nL n).length ≤ 8 := numL_len8 (clip_le n)
theorem ps_one {w w' : World} {A : Option Addr} {c n g : Nat} {l : List UInt8} (e : TypeId) (h : RB w (.slice A n c) l) (hw : w' = w.alloc (.cells #[.slice A n c] e)) (hg : g = w.heap.size) : PSn w' (.slice (some ⟨g, 0, none⟩) 1 1) [(.slice A n c, l)] := by
  subst hw; subst hg
  exact .inr (PS.made (vs := [.slice A n c]) (ls := [l]) (n := 1) rfl rfl (by omega) (fun j h1 h2 => by
    match j, h1 with
    | 0, _ => exact h))
set_option maxRecDepth 100000 in
set_option maxHeartbeats 4000000 in
theorem note_any (x : Ts.Sub) (av qv : Value) (w : World) (ha : Go.Ts.RI w av x.acks) (hq : RM w qv x.queue) (hx : EncOk x) (hp : Pow w) :
    Calls Tryd.prog 17 #[.agg (subC x av qv).toArray] w (GivesRw w (noteL x)) := by
  have hI := InB.mk_ ha hq hx hp
  obtain ⟨W0, hW0⟩ : ∃ W0, W0 = w.alloc (.cells (subC x av qv).toArray 27) := ⟨_, rfl⟩
  rw [← hW0] at hI
  obtain ⟨C, hC⟩ : ∃ C, C = subC x av qv := ⟨_, rfl⟩
  rw [← hC] at hI hW0 ⊢
  have HI := Lib.hid hI
  have HSZ := Lib.hid hI.size
  have HC9 := Lib.hid (fun W (hb : Below W0.heap.size W0 W) => hI.cell hb (i := 9) rfl)
  have d9 : C[9]? = some (sv x.note) := by rw [hC]; rfl
  have HL := Lib.hid hx.note
  have HT := Lib.hid (fun W => textS_any x.note hx.note W)
  clear hI ha hq hx hp hC
  by_cases hn : x.note = []
  · have hE : noteL x = [] := by unfold noteL; rw [if_pos hn]
    rw [hE]
    have q1 : (x.note == []) = true := by rw [hn]; rfl
    have HN := Lib.hid hn
    clear hn hE
    go_enter Tryd.func17, Tryd.ntmps17
    go_wp2
    rw [← hW0]
    go_ret
    exact GivesRw.mk (OR.nil_ _ _ _ _) HI.out.bel
  · have HN := Lib.hid (show noteL x = [(ky 110 x.id 0, textL x.note)] by unfold noteL; rw [if_neg hn])
    have q1 : (x.note == []) = false := by simpa using hn
    clear hn
    go_enter Tryd.func17, Tryd.ntmps17
    go_wp2_with fail
    rw [← hW0]
    clear hW0 d9
    refine wp_region_held_drew (S := SB [W0]) (by kernel_rfl) (SB.start _) (fun hHeld => ?_)
    refine tkA 0 (v := .agg C.toArray) (fun W hSw => exec_load_mid 27 (.tmp 1) rfl w.heap.size 0 rfl _ _ (HI.out.range (SB.b0 hSw)) Tryd.underlying27 rfl HI.out.cub.infoL) ?_
    try simp only [Act.put, zA, zB, zC]
    refine tkC 1 ?_
    refine tkA 2 (v := ?_) ?_ ?_
    rotate_left
    · intro W hSw; have hq := HC9.out W (SB.b0 hSw); go_simp; try (with_reducible rfl)
    try simp only [Act.put, zA, zB, zC]
    refine rdA (rs := [3]) (arC (i := 3) fun K hK => ?_)
    go_simp
    refine (HT.out _).mono ?_
    rintro e w3 ⟨v3, rfl, hown3, hb3⟩
    obtain ⟨A3, c3, rfl, _⟩ := own_shape hown3
    try (go_wp2_with fail)
    have hHeld' := SB.step hHeld hb3
    refine hK.out _ _ ?_ (fun _ => ?_)
    · exact hHeld'
    clear hK K hHeld
    have hHeld := hHeld'
    clear hHeld'
    try simp only [Act.put, zA, zB, zC]
    refine rdA (rs := [4]) (arC (i := 4) fun K hK => ?_)
    go_simp
    obtain ⟨w4, hw4, hb4⟩ : ∃ w4, w4 = w3.alloc (.cells #[.slice A3 (textL x.note).length c3] 22) ∧ Below w3.heap.size w3 w4 := ⟨_, rfl, (Below.refl _ _).alloc (Nat.le_refl _) _⟩
    rw [← hw4]
    have HPS := Lib.hid (ps_one _ (RB.own hown3) hw4 rfl)
    clear hw4
    try (go_wp2_with fail)
    have hHeld' := SB.step hHeld hb4
    refine hK.out _ _ ?_ (fun _ => ?_)
    · exact hHeld'
    clear hK K hHeld
    have hHeld := hHeld'
    clear hHeld'
    try simp only [Act.put, zA, zB, zC]
    refine rdA (rs := [5]) (arC (i := 5) fun K hK => ?_)
    go_simp
    refine (HI.out.row (SB.b0 hHeld) 110 110 rfl 0 (by omega) _ _ HPS.out (by simp only [cat, List.flatMap_cons, List.flatMap_nil, List.append_nil]; have := textL_le HL.out; omega)).mono ?_
    rintro e w5 ⟨u, rfl, hu, hb5⟩
    have hu : FB 5 w5 w4.heap.size u (textL x.note) := by have h := hu; simp only [cat, List.flatMap_cons, List.flatMap_nil, List.append_nil] at h; exact h
    obtain ⟨A5, c5, rfl⟩ := hu.shape
    try (go_wp2_with fail)
    have hHeld' := SB.step hHeld hb5
    refine hK.out _ _ ?_ (fun _ => ?_)
    · exact hHeld'
    clear hK K hHeld
    have hHeld := hHeld'
    clear hHeld'
    try simp only [Act.put, zA, zB, zC]
    refine rdA (rs := [6]) (arC (i := 6) fun K hK => ?_)
    go_simp
    have h5 := (SB.b0 hHeld)
    have hs5 := h5.size
    have hs4 := hb5.size
    have hs3 : W0.heap.size ≤ w3.heap.size := hb3.size
    have hbu := hu.base_ (base' := w.heap.size) (by have := hb4.size; have := hb3.size; have := HSZ.out; omega)
    have HOR := Lib.hid (or_lit (k := ky 110 x.id 0) hbu (by have := HSZ.out; omega))
    obtain ⟨w6, hw6, hb6⟩ : ∃ w6, w6 = w5.alloc (.cells #[.string (ky 110 x.id 0), .slice A5 (textL x.note).length c5] 42) ∧ Below w5.heap.size w5 w6 := ⟨_, rfl, (Below.refl _ _).alloc (Nat.le_refl _) _⟩
    rw [← hw6] at HOR ⊢
    clear hw6
    try (go_wp2_with fail)
    have hHeld' := SB.step hHeld hb6
    refine hK.out _ _ ?_ (fun _ => ?_)
    · exact hHeld'
    clear hK K hHeld
    have hHeld := hHeld'
    clear hHeld'
    try simp only [Act.put, zA, zB, zC]
    refine tkC 7 ?_
    refine wpAnyH_done (by kernel_rfl) ?_ _
    go_wp2
    go_ret
    refine GivesRw.mk ?_ (HI.out.bel.trans ((SB.b0 hHeld).mono HI.out.bel.size))
    rw [HN.out]
    exact HOR.out
set_option maxRecDepth 100000 in
set_option maxHeartbeats 4000000 in
theorem want_any (x : Ts.Sub) (av qv : Value) (w : World) (ha : Go.Ts.RI w av x.acks) (hq : RM w qv x.queue) (hx : EncOk x) (hp : Pow w) :
    Calls Tryd.prog 20 #[.agg (subC x av qv).toArray] w (GivesRw w (wantL x)) := by
  have hI := InB.mk_ ha hq hx hp
  obtain ⟨W0, hW0⟩ : ∃ W0, W0 = w.alloc (.cells (subC x av qv).toArray 27) := ⟨_, rfl⟩
  rw [← hW0] at hI
  obtain ⟨C, hC⟩ : ∃ C, C = subC x av qv := ⟨_, rfl⟩
  rw [← hC] at hI hW0 ⊢
  have HI := Lib.hid hI
  have HSZ := Lib.hid hI.size
  have HC9 := Lib.hid (fun W (hb : Below W0.heap.size W0 W) => hI.cell hb (i := 3) rfl)
  have d9 : C[3]? = some (sv x.want) := by rw [hC]; rfl
  have HL := Lib.hid hx.want
  have HT := Lib.hid (fun W => textS_any x.want hx.want W)
  clear hI ha hq hx hp hC
  by_cases hn : x.want = []
  · have hE : wantL x = [] := by unfold wantL; rw [if_pos hn]
    rw [hE]
    have q1 : (x.want == []) = true := by rw [hn]; rfl
    have HN := Lib.hid hn
    clear hn hE
    go_enter Tryd.func20, Tryd.ntmps20
    go_wp2
    rw [← hW0]
    go_ret
    exact GivesRw.mk (OR.nil_ _ _ _ _) HI.out.bel
  · have HN := Lib.hid (show wantL x = [(ky 119 x.id 0, textL x.want)] by unfold wantL; rw [if_neg hn])
    have q1 : (x.want == []) = false := by simpa using hn
    clear hn
    go_enter Tryd.func20, Tryd.ntmps20
    go_wp2_with fail
    rw [← hW0]
    clear hW0 d9
    refine wp_region_held_drew (S := SB [W0]) (by kernel_rfl) (SB.start _) (fun hHeld => ?_)
    refine tkA 0 (v := .agg C.toArray) (fun W hSw => exec_load_mid 27 (.tmp 1) rfl w.heap.size 0 rfl _ _ (HI.out.range (SB.b0 hSw)) Tryd.underlying27 rfl HI.out.cub.infoL) ?_
    try simp only [Act.put, zA, zB, zC]
    refine tkC 1 ?_
    refine tkA 2 (v := ?_) ?_ ?_
    rotate_left
    · intro W hSw; have hq := HC9.out W (SB.b0 hSw); go_simp; try (with_reducible rfl)
    try simp only [Act.put, zA, zB, zC]
    refine rdA (rs := [3]) (arC (i := 3) fun K hK => ?_)
    go_simp
    refine (HT.out _).mono ?_
    rintro e w3 ⟨v3, rfl, hown3, hb3⟩
    obtain ⟨A3, c3, rfl, _⟩ := own_shape hown3
    try (go_wp2_with fail)
    have hHeld' := SB.step hHeld hb3
    refine hK.out _ _ ?_ (fun _ => ?_)
    · exact hHeld'
    clear hK K hHeld
    have hHeld := hHeld'
    clear hHeld'
    try simp only [Act.put, zA, zB, zC]
    refine rdA (rs := [4]) (arC (i := 4) fun K hK => ?_)
    go_simp
    obtain ⟨w4, hw4, hb4⟩ : ∃ w4, w4 = w3.alloc (.cells #[.slice A3 (textL x.want).length c3] 22) ∧ Below w3.heap.size w3 w4 := ⟨_, rfl, (Below.refl _ _).alloc (Nat.le_refl _) _⟩
    rw [← hw4]
    have HPS := Lib.hid (ps_one _ (RB.own hown3) hw4 rfl)
    clear hw4
    try (go_wp2_with fail)
    have hHeld' := SB.step hHeld hb4
    refine hK.out _ _ ?_ (fun _ => ?_)
    · exact hHeld'
    clear hK K hHeld
    have hHeld := hHeld'
    clear hHeld'
    try simp only [Act.put, zA, zB, zC]
    refine rdA (rs := [5]) (arC (i := 5) fun K hK => ?_)
    go_simp
    refine (HI.out.row (SB.b0 hHeld) 119 119 rfl 0 (by omega) _ _ HPS.out (by simp only [cat, List.flatMap_cons, List.flatMap_nil, List.append_nil]; have := textL_le HL.out; omega)).mono ?_
    rintro e w5 ⟨u, rfl, hu, hb5⟩
    have hu : FB 5 w5 w4.heap.size u (textL x.want) := by have h := hu; simp only [cat, List.flatMap_cons, List.flatMap_nil, List.append_nil] at h; exact h
    obtain ⟨A5, c5, rfl⟩ := hu.shape
    try (go_wp2_with fail)
    have hHeld' := SB.step hHeld hb5
    refine hK.out _ _ ?_ (fun _ => ?_)
    · exact hHeld'
    clear hK K hHeld
    have hHeld := hHeld'
    clear hHeld'
    try simp only [Act.put, zA, zB, zC]
    refine rdA (rs := [6]) (arC (i := 6) fun K hK => ?_)
    go_simp
    have h5 := (SB.b0 hHeld)
    have hs5 := h5.size
    have hs4 := hb5.size
    have hs3 : W0.heap.size ≤ w3.heap.size := hb3.size
    have hbu := hu.base_ (base' := w.heap.size) (by have := hb4.size; have := hb3.size; have := HSZ.out; omega)
    have HOR := Lib.hid (or_lit (k := ky 119 x.id 0) hbu (by have := HSZ.out; omega))
    obtain ⟨w6, hw6, hb6⟩ : ∃ w6, w6 = w5.alloc (.cells #[.string (ky 119 x.id 0), .slice A5 (textL x.want).length c5] 42) ∧ Below w5.heap.size w5 w6 := ⟨_, rfl, (Below.refl _ _).alloc (Nat.le_refl _) _⟩
    rw [← hw6] at HOR ⊢
    clear hw6
    try (go_wp2_with fail)
    have hHeld' := SB.step hHeld hb6
    refine hK.out _ _ ?_ (fun _ => ?_)
    · exact hHeld'
    clear hK K hHeld
    have hHeld := hHeld'
    clear hHeld'
    try simp only [Act.put, zA, zB, zC]
    refine tkC 7 ?_
    refine wpAnyH_done (by kernel_rfl) ?_ _
    go_wp2
    go_ret
    refine GivesRw.mk ?_ (HI.out.bel.trans ((SB.b0 hHeld).mono HI.out.bel.size))
    rw [HN.out]
    exact HOR.out
end Go.Proofs.YtmdkonfmbbbepaaDoor
set_option linter.unusedVariables false
set_option linter.unusedSimpArgs false
namespace Go.Proofs.YtmdkonfmbbbepaaDoor
open Go.RowKit Go.Rst Go.Tp Go.Ts Go.Tk Go.Crc Go.On Go.Pg
theorem numS_any (n : Int) (W : World) : Calls Tryd.prog 35 #[.int .i64 n] W (NewB 5 W (nL n)) := num_any n W
theorem ps_five {w w' : World} {A1 A2 A3 A4 A5 : Option Addr} {c1 c2 c3 c4 c5 n1 n2 n3 n4 n5 g : Nat} {l1 l2 l3 l4 l5 : List UInt8} (e : TypeId) (h1 : RB w (.slice A1 n1 c1) l1) (h2 : RB w (.slice A2 n2 c2) l2) (h3 : RB w (.slice A3 n3 c3) l3) (h4 : RB w (.slice A4 n4 c4) l4) (h5 : RB w (.slice A5 n5 c5) l5)
    (hw : w' = w.alloc (.cells #[.slice A1 n1 c1, .slice A2 n2 c2, .slice A3 n3 c3, .slice A4 n4 c4, .slice A5 n5 c5] e)) (hg : g = w.heap.size) :
    PSn w' (.slice (some ⟨g, 0, none⟩) 5 5) [(.slice A1 n1 c1, l1), (.slice A2 n2 c2, l2), (.slice A3 n3 c3, l3), (.slice A4 n4 c4, l4), (.slice A5 n5 c5, l5)] := by
  subst hw; subst hg
  exact .inr (PS.made (vs := [.slice A1 n1 c1, .slice A2 n2 c2, .slice A3 n3 c3, .slice A4 n4 c4, .slice A5 n5 c5]) (ls := [l1, l2, l3, l4, l5]) (n := 5) rfl rfl (by omega) (fun j i1 i2 => by
    match j, i1 with
    | 0, _ => exact h1
    | 1, _ => exact h2
    | 2, _ => exact h3
    | 3, _ => exact h4
    | 4, _ => exact h5))
theorem ps_two {w w' : World} {A1 A2 : Option Addr} {c1 c2 n1 n2 g : Nat} {l1 l2 : List UInt8} (e : TypeId) (h1 : RB w (.slice A1 n1 c1) l1) (h2 : RB w (.slice A2 n2 c2) l2)
    (hw : w' = w.alloc (.cells #[.slice A1 n1 c1, .slice A2 n2 c2] e)) (hg : g = w.heap.size) :
    PSn w' (.slice (some ⟨g, 0, none⟩) 2 2) [(.slice A1 n1 c1, l1), (.slice A2 n2 c2, l2)] := by
  subst hw; subst hg
  exact .inr (PS.made (vs := [.slice A1 n1 c1, .slice A2 n2 c2]) (ls := [l1, l2]) (n := 2) rfl rfl (by omega) (fun j i1 i2 => by
    match j, i1 with
    | 0, _ => exact h1
    | 1, _ => exact h2))
theorem wh_grown {w w' : World} {g base sz n : Nat} {cs xs : List Value} {t e : TypeId} {v : Value} (h : Wh w g cs t) (ho : w.ownsRow base e sz v n xs) (hne : t ≠ e) (hg : w.grownBy w' v.ownBlock) : Wh w' g cs t :=
  h.kept hg fun he => by
    rcases ho.2 with ⟨rfl, _⟩ | ⟨g', cap, cur, rfl, _, hh, _⟩
    · simp [Value.ownBlock] at he
    · simp only [Value.ownBlock, Option.some.injEq] at he
      subst he
      have h1 : w.heap[g]? = _ := h
      rw [hh] at h1
      injection h1 with h1
      injection h1 with _ h2 _
      exact hne h2.symm
theorem wh_cell {w : World} {g : Nat} {cs : List Value} {t : TypeId} {i : Nat} {v : Value} (h : Wh w g cs t) (hv : cs[i]? = some v) : w.cell? ⟨g, i, none⟩ = some v := by
  obtain ⟨h1, h2⟩ := List.getElem?_eq_some_iff.1 hv
  rw [h.bx.cell (i := i) h1, h2]
structure SQ (W0 : World) (g : Nat) (M : List Value) (W : World) : Prop where
  a : Below W0.heap.size W0 W
  b : Wh W g M 45
theorem SQ.step {W0 : World} {g : Nat} {M : List Value} {W W' : World} (h : SQ W0 g M W) (hb : Below W.heap.size W W') : SQ W0 g M W' := ⟨h.a.trans (hb.mono h.a.size), h.b.below hb⟩
theorem subV_le {x : Ts.Sub} (hx : EncOk x) : (subV x).length ≤ 1000000 := by
  unfold subV
  simp only [List.length_append]
  have := textL_le hx.name
  have := textL_le hx.topic
  have := nL_le x.lease
  have := nL_le x.most
  have := nL_le x.floor
  omega
set_option maxRecDepth 100000 in
set_option maxHeartbeats 4000000 in
theorem sub1_any (x : Ts.Sub) (av qv : Value) (w : World) (ha : Go.Ts.RI w av x.acks) (hq : RM w qv x.queue) (hx : EncOk x) (hp : Pow w) :
    Calls Tryd.prog 19 #[.agg (subC x av qv).toArray] w (GivesRw w (subL x)) := by
  have hI := InB.mk_ ha hq hx hp
  obtain ⟨W0, hW0⟩ : ∃ W0, W0 = w.alloc (.cells (subC x av qv).toArray 27) := ⟨_, rfl⟩
  rw [← hW0] at hI
  obtain ⟨C, hC⟩ : ∃ C, C = subC x av qv := ⟨_, rfl⟩
  rw [← hC] at hI hW0 ⊢
  have HI := Lib.hid hI
  have HSZ := Lib.hid hI.size
  have HC1 := Lib.hid (fun W (hb : Below W0.heap.size W0 W) => hI.cell hb (i := 1) rfl)
  have HC2 := Lib.hid (fun W (hb : Below W0.heap.size W0 W) => hI.cell hb (i := 2) rfl)
  have HC4 := Lib.hid (fun W (hb : Below W0.heap.size W0 W) => hI.cell hb (i := 4) rfl)
  have HC5 := Lib.hid (fun W (hb : Below W0.heap.size W0 W) => hI.cell hb (i := 5) rfl)
  have HC6 := Lib.hid (fun W (hb : Below W0.heap.size W0 W) => hI.cell hb (i := 6) rfl)
  have HT1 := Lib.hid (fun W => textS_any x.name hx.name W)
  have HT2 := Lib.hid (fun W => textS_any x.topic hx.topic W)
  have HN3 := Lib.hid (fun W => numS_any x.lease W)
  have HN4 := Lib.hid (fun W => numS_any x.most W)
  have HN5 := Lib.hid (fun W => numS_any x.floor W)
  have HVL := Lib.hid (subV_le hx)
  have HCAT := Lib.hid (fun (v1 v2 v3 v4 v5 : Value) => by simp [cat, subV] : ∀ (v1 v2 v3 v4 v5 : Value), cat [(v1, textL x.name), (v2, textL x.topic), (v3, nL x.lease), (v4, nL x.most), (v5, nL x.floor)] = subV x)
  unfold subL
  clear hI ha hq hx hp hC
  go_enter Tryd.func19, Tryd.ntmps19
  go_wp2_with fail
  rw [← hW0]
  clear hW0
  refine wp_region_held_drew (S := SB [W0]) (by kernel_rfl) (SB.start _) (fun hHeld => ?_)
  refine tkA 0 (v := .agg C.toArray) (fun W hSw => exec_load_mid 27 (.tmp 1) rfl w.heap.size 0 rfl _ _ (HI.out.range (SB.b0 hSw)) Tryd.underlying27 rfl HI.out.cub.infoL) ?_
  try simp only [Act.put, zA, zB, zC]
  refine tkC 1 ?_
  refine tkA 2 (v := ?_) ?_ ?_
  rotate_left
  · intro W hSw; have hq := HC1.out W (SB.b0 hSw); go_simp; try (with_reducible rfl)
  try simp only [Act.put, zA, zB, zC]
  refine tkC 4 ?_
  refine tkA 5 (v := ?_) ?_ ?_
  rotate_left
  · intro W hSw; have hq := HC2.out W (SB.b0 hSw); go_simp; try (with_reducible rfl)
  try simp only [Act.put, zA, zB, zC]
  refine tkC 7 ?_
  refine tkA 8 (v := ?_) ?_ ?_
  rotate_left
  · intro W hSw; have hq := HC4.out W (SB.b0 hSw); go_simp; try (with_reducible rfl)
  try simp only [Act.put, zA, zB, zC]
  refine tkC 10 ?_
  refine tkA 11 (v := ?_) ?_ ?_
  rotate_left
  · intro W hSw; have hq := HC5.out W (SB.b0 hSw); go_simp; try (with_reducible rfl)
  try simp only [Act.put, zA, zB, zC]
  refine tkC 13 ?_
  refine tkA 14 (v := ?_) ?_ ?_
  rotate_left
  · intro W hSw; have hq := HC6.out W (SB.b0 hSw); go_simp; try (with_reducible rfl)
  try simp only [Act.put, zA, zB, zC]
  refine rdA (rs := [3]) (arC (i := 3) fun K hK => ?_)
  go_simp
  refine (HT1.out _).mono ?_
  rintro e wc1 ⟨vc1, rfl, hown1, hb⟩
  obtain ⟨A1, c1, rfl, _⟩ := own_shape hown1
  have hv1 := RB.own hown1
  clear hown1
  have hsz1 : W0.heap.size ≤ wc1.heap.size := hb.size
  try (go_wp2_with fail)
  have hHeld' := SB.step hHeld hb
  refine hK.out _ _ ?_ (fun _ => ?_)
  · exact hHeld'
  clear hK K hHeld
  have hHeld := hHeld'
  clear hHeld'
  try simp only [Act.put, zA, zB, zC]
  refine rdA (rs := [6]) (arC (i := 6) fun K hK => ?_)
  go_simp
  refine (HT2.out _).mono ?_
  rintro e wc2 ⟨vc2, rfl, hown2, hb⟩
  obtain ⟨A2, c2, rfl, _⟩ := own_shape hown2
  have hv2 := RB.own hown2
  clear hown2
  have hv1 := hv1.below hb
  have hsz2 : wc1.heap.size ≤ wc2.heap.size := hb.size
  try (go_wp2_with fail)
  have hHeld' := SB.step hHeld hb
  refine hK.out _ _ ?_ (fun _ => ?_)
  · exact hHeld'
  clear hK K hHeld
  have hHeld := hHeld'
  clear hHeld'
  try simp only [Act.put, zA, zB, zC]
  refine rdA (rs := [9]) (arC (i := 9) fun K hK => ?_)
  go_simp
  refine (HN3.out _).mono ?_
  rintro e wc3 ⟨vc3, rfl, hown3, hb⟩
  obtain ⟨A3, c3, rfl, _⟩ := own_shape hown3
  have hv3 := RB.own hown3
  clear hown3
  have hv1 := hv1.below hb
  have hv2 := hv2.below hb
  have hsz3 : wc2.heap.size ≤ wc3.heap.size := hb.size
  try (go_wp2_with fail)
  have hHeld' := SB.step hHeld hb
  refine hK.out _ _ ?_ (fun _ => ?_)
  · exact hHeld'
  clear hK K hHeld
  have hHeld := hHeld'
  clear hHeld'
  try simp only [Act.put, zA, zB, zC]
  refine rdA (rs := [12]) (arC (i := 12) fun K hK => ?_)
  go_simp
  refine (HN4.out _).mono ?_
  rintro e wc4 ⟨vc4, rfl, hown4, hb⟩
  obtain ⟨A4, c4, rfl, _⟩ := own_shape hown4
  have hv4 := RB.own hown4
  clear hown4
  have hv1 := hv1.below hb
  have hv2 := hv2.below hb
  have hv3 := hv3.below hb
  have hsz4 : wc3.heap.size ≤ wc4.heap.size := hb.size
  try (go_wp2_with fail)
  have hHeld' := SB.step hHeld hb
  refine hK.out _ _ ?_ (fun _ => ?_)
  · exact hHeld'
  clear hK K hHeld
  have hHeld := hHeld'
  clear hHeld'
  try simp only [Act.put, zA, zB, zC]
  refine rdA (rs := [15]) (arC (i := 15) fun K hK => ?_)
  go_simp
  refine (HN5.out _).mono ?_
  rintro e wc5 ⟨vc5, rfl, hown5, hb⟩
  obtain ⟨A5, c5, rfl, _⟩ := own_shape hown5
  have hv5 := RB.own hown5
  clear hown5
  have hv1 := hv1.below hb
  have hv2 := hv2.below hb
  have hv3 := hv3.below hb
  have hv4 := hv4.below hb
  have hsz5 : wc4.heap.size ≤ wc5.heap.size := hb.size
  try (go_wp2_with fail)
  have hHeld' := SB.step hHeld hb
  refine hK.out _ _ ?_ (fun _ => ?_)
  · exact hHeld'
  clear hK K hHeld
  have hHeld := hHeld'
  clear hHeld'
  try simp only [Act.put, zA, zB, zC]
  refine rdA (rs := [16]) (arC (i := 16) fun K hK => ?_)
  go_simp
  obtain ⟨w6, hw6, hb6⟩ : ∃ w6, w6 = wc5.alloc (.cells #[.slice A1 (textL x.name).length c1, .slice A2 (textL x.topic).length c2, .slice A3 (nL x.lease).length c3, .slice A4 (nL x.most).length c4, .slice A5 (nL x.floor).length c5] 22) ∧ Below wc5.heap.size wc5 w6 := ⟨_, rfl, (Below.refl _ _).alloc (Nat.le_refl _) _⟩
  rw [← hw6]
  have HPS := Lib.hid (ps_five _ hv1 hv2 hv3 hv4 hv5 hw6 rfl)
  clear hw6
  try (go_wp2_with fail)
  have hHeld' := SB.step hHeld hb6
  refine hK.out _ _ ?_ (fun _ => ?_)
  · exact hHeld'
  clear hK K hHeld
  have hHeld := hHeld'
  clear hHeld'
  try simp only [Act.put, zA, zB, zC]
  refine rdA (rs := [17]) (arC (i := 17) fun K hK => ?_)
  go_simp
  refine (HI.out.row (SB.b0 hHeld) 115 115 rfl 0 (by omega) _ _ HPS.out (by rw [HCAT.out]; exact HVL.out)).mono ?_
  rintro e w7 ⟨u, rfl, hu, hb7⟩
  rw [HCAT.out] at hu
  obtain ⟨A7, c7, rfl⟩ := hu.shape
  try (go_wp2_with fail)
  have hHeld' := SB.step hHeld hb7
  refine hK.out _ _ ?_ (fun _ => ?_)
  · exact hHeld'
  clear hK K hHeld
  have hHeld := hHeld'
  clear hHeld'
  try simp only [Act.put, zA, zB, zC]
  refine rdA (rs := [18]) (arC (i := 18) fun K hK => ?_)
  go_simp
  have hbu := hu.base_ (base' := w.heap.size) (by have := hb6.size; have := HSZ.out; omega)
  have HOR := Lib.hid (or_lit (k := ky 115 x.id 0) hbu (by have := hb6.size; have := hb7.size; have := HSZ.out; omega))
  obtain ⟨w8, hw8, hb8⟩ : ∃ w8, w8 = w7.alloc (.cells #[.string (ky 115 x.id 0), .slice A7 (subV x).length c7] 42) ∧ Below w7.heap.size w7 w8 := ⟨_, rfl, (Below.refl _ _).alloc (Nat.le_refl _) _⟩
  rw [← hw8] at HOR ⊢
  clear hw8
  try (go_wp2_with fail)
  have hHeld' := SB.step hHeld hb8
  refine hK.out _ _ ?_ (fun _ => ?_)
  · exact hHeld'
  clear hK K hHeld
  have hHeld := hHeld'
  clear hHeld'
  try simp only [Act.put, zA, zB, zC]
  refine tkC 19 ?_
  refine wpAnyH_done (by kernel_rfl) ?_ _
  go_wp2
  go_ret
  refine GivesRw.mk ?_ (HI.out.bel.trans ((SB.b0 hHeld).mono HI.out.bel.size))
  exact HOR.out
end Go.Proofs.YtmdkonfmbbbepaaDoor
set_option linter.unusedVariables false
set_option linter.unusedSimpArgs false
namespace Go.Proofs.YtmdkonfmbbbepaaDoor
open Go.RowKit Go.Rst Go.Tp Go.Ts Go.Tk Go.Crc Go.On Go.Pg
structure Ex (A : Nat → Prop) (w w' : World) : Prop where
  os : w'.os = w.os
  tape : w'.tape = w.tape
  output : w'.output = w.output
  size : w.heap.size ≤ w'.heap.size
  block : ∀ k, k < w.heap.size → ¬ A k → w'.heap[k]? = w.heap[k]?
theorem Ex.refl (A : Nat → Prop) (w : World) : Ex A w w := ⟨rfl, rfl, rfl, Nat.le_refl _, fun _ _ _ => rfl⟩
theorem Ex.trans {A : Nat → Prop} {w w' w'' : World} (h : Ex A w w') (h2 : Ex A w' w'') : Ex A w w'' :=
  ⟨h2.os.trans h.os, h2.tape.trans h.tape, h2.output.trans h.output, Nat.le_trans h.size h2.size, fun k hk hA => (h2.block k (Nat.lt_of_lt_of_le hk h.size) hA).trans (h.block k hk hA)⟩
theorem Ex.mono {A A' : Nat → Prop} {w w' : World} (h : Ex A w w') (hA : ∀ k, k < w.heap.size → A k → A' k) : Ex A' w w' := ⟨h.os, h.tape, h.output, h.size, fun k hk hk2 => h.block k hk (fun h3 => hk2 (hA k hk h3))⟩
theorem Ex.ofBelow {A : Nat → Prop} {w w' : World} (h : Below w.heap.size w w') : Ex A w w' := ⟨h.os, h.tape, h.output, h.size, fun k hk _ => h.block k hk⟩
theorem Ex.ofGrown {A : Nat → Prop} {w w' : World} {g : Nat} (h : w.grownBy w' (some g)) (hA : A g) : Ex A w w' := ⟨h.os, h.tape, h.output, h.size, fun k hk hk2 => h.block k hk (fun e => by injection e with e; subst e; exact hk2 hA)⟩
theorem Ex.below {A : Nat → Prop} {B : Nat} {w w' : World} (h : Ex A w w') (hA : ∀ k, A k → B ≤ k) (hB : B ≤ w.heap.size) : Below B w w' := ⟨h.os, h.tape, h.output, h.size, fun k hk => h.block k (Nat.lt_of_lt_of_le hk hB) (fun h2 => by have := hA k h2; omega)⟩
theorem Ex.wh {A : Nat → Prop} {w w' : World} {g : Nat} {cs : List Value} {t : TypeId} (h : Ex A w w') (hw : Wh w g cs t) (hA : ¬ A g) : Wh w' g cs t := (h.block g hw.lt hA).trans hw
theorem ex_set {w : World} {g : Nat} {cs : List Value} {t : TypeId} (h : Wh w g cs t) (i : Nat) (v : Value) : Ex (· = g) w (w.setCell ⟨g, i, none⟩ v) := by
  rw [setCell_eq_setRow w g i cs.toArray t (0, 0) v h]
  exact Ex.ofGrown (grown_row w g _) rfl
set_option maxRecDepth 100000 in
set_option maxHeartbeats 2000000 in
theorem ftext_any (fb : Nat) (bv : Value) (l : List UInt8) (p most : Int) (w : World) (hb : RB w bv l) (hf : Wh w fb [bv, .int .i64 p] 58) :
    Calls Tryd.prog 53 #[.pointer (some ⟨fb, 0, none⟩), .int .i64 most] w fun e w' => e = .returned (sv (txA l p most).1) ∧ Ex (· = fb) w w' ∧ Wh w' fb [bv, .int .i64 (txA l p most).2] 58 := by
  obtain ⟨A, c, rfl, _⟩ := hb
  have hb : RB w (.slice A l.length c) l := ⟨A, c, rfl, by assumption⟩
  obtain ⟨s, hs⟩ : ∃ s, s = (getText l p most).1 := ⟨_, rfl⟩
  obtain ⟨q, hq⟩ : ∃ q, q = (getText l p most).2.1 := ⟨_, rfl⟩
  obtain ⟨er, her⟩ : ∃ er, er = (getText l p most).2.2 := ⟨_, rfl⟩
  have HG := Lib.hid (fun W (h : Below w.heap.size w W) => by have := getText_any _ l p most W (hb.below h); rw [← hs, ← hq, ← her] at this; exact this : ∀ W (h : Below w.heap.size w W), Calls Tryd.prog 66 #[.slice A l.length c, .int .i64 p, .int .i64 most] W fun e w' => e = .returned (.tuple #[sv s, .int .i64 q, .int .u16 er]) ∧ W = w')
  have HF := Lib.hid (fun W (h : Below w.heap.size w W) => ⟨wh_cell (hf.below h) (i := 0) rfl, wh_cell (hf.below h) (i := 1) rfl⟩ : ∀ W (h : Below w.heap.size w W), W.cell? ⟨fb, 0, none⟩ = some (.slice A l.length c) ∧ W.cell? ⟨fb, 1, none⟩ = some (.int .i64 p))
  have HW := Lib.hid hf
  have e1 : (txA l p most).1 = s := hs.symm
  have e2 : (txA l p most).2 = q := hq.symm
  rw [e1, e2]
  clear hb hf hs hq her e1 e2
  go_enter Tryd.func53, Tryd.ntmps53
  go_wp2_with fail
  refine wp_region_held_drew (S := SB [w]) (by kernel_rfl) (SB.start _) (fun hHeld => ?_)
  refine tkC 0 ?_
  refine tkC 1 ?_
  refine tkC 2 ?_
  refine tkA 3 (v := ?_) ?_ ?_
  rotate_left
  · intro W hSw; have hq := (HF.out W (SB.b0 hSw)).1; go_simp; try (with_reducible rfl)
  try simp only [Act.put, zA, zB, zC]
  refine tkC 4 ?_
  refine tkC 5 ?_
  refine tkC 6 ?_
  refine tkA 7 (v := ?_) ?_ ?_
  rotate_left
  · intro W hSw; have hq := (HF.out W (SB.b0 hSw)).2; go_simp; try (with_reducible rfl)
  try simp only [Act.put, zA, zB, zC]
  refine tkC 8 ?_
  refine rdA (rs := [9]) (arC (i := 9) fun K hK => ?_)
  go_simp
  refine (HG.out _ (SB.b0 hHeld)).mono ?_
  rintro e w3 ⟨rfl, hw3⟩
  subst w3
  try (go_wp2_with fail)
  have hHeld' := hHeld
  refine hK.out _ _ ?_ (fun _ => ?_)
  · exact hHeld'
  clear hK K hHeld
  have hHeld := hHeld'
  clear hHeld'
  try simp only [Act.put, zA, zB, zC]
  refine tkC 10 ?_
  refine tkC 11 ?_
  refine tkC 12 ?_
  refine tkC 13 ?_
  refine tkC 14 ?_
  refine tkC 15 ?_
  refine tkC 16 ?_
  refine wpAnyH_done (by kernel_rfl) ?_ _
  have hb3 := SB.b0 hHeld
  obtain ⟨w3, hw3⟩ : ∃ w3, w3 = w.drew := ⟨_, rfl⟩
  rw [← hw3] at hb3 ⊢
  have hf3 := HW.out.below hb3
  have c1 := wh_cell hf3 (i := 1) rfl
  have z1 := hf3.frozen 1
  have HB3 := Lib.hid hb3
  have HF3 := Lib.hid hf3
  clear hHeld hw3 hb3 hf3
  go_wp2
  go_ret
  exact ⟨rfl, (Ex.ofBelow HB3.out).trans (ex_set HF3.out 1 _), HF3.out.set1 1 _⟩
set_option maxRecDepth 100000 in
set_option maxHeartbeats 2000000 in
theorem fnum_any (fb : Nat) (bv : Value) (l : List UInt8) (p : Int) (w : World) (hb : RB w bv l) (hf : Wh w fb [bv, .int .i64 p] 58) :
    Calls Tryd.prog 54 #[.pointer (some ⟨fb, 0, none⟩)] w fun e w' => e = .returned (.int .i64 (nmA l p).1) ∧ Ex (· = fb) w w' ∧ Wh w' fb [bv, .int .i64 (nmA l p).2] 58 := by
  obtain ⟨A, c, rfl, _⟩ := hb
  obtain ⟨s, hs⟩ : ∃ s, s = (getNum l p).1 := ⟨_, rfl⟩
  obtain ⟨q, hq⟩ : ∃ q, q = (getNum l p).2.1 := ⟨_, rfl⟩
  obtain ⟨er, her⟩ : ∃ er, er = (getNum l p).2.2 := ⟨_, rfl⟩
  have hb : RB w (.slice A l.length c) l := ⟨A, c, rfl, by assumption⟩
  have HG := Lib.hid (fun W (h : Below w.heap.size w W) => by have := getNum_any _ l p W (hb.below h); rw [← hs, ← hq, ← her] at this; exact this : ∀ W (h : Below w.heap.size w W), Calls Tryd.prog 67 #[.slice A l.length c, .int .i64 p] W fun e w' => e = .returned (.tuple #[.int .i64 s, .int .i64 q, .int .u16 er]) ∧ W = w')
  have HF := Lib.hid (fun W (h : Below w.heap.size w W) => ⟨wh_cell (hf.below h) (i := 0) rfl, wh_cell (hf.below h) (i := 1) rfl⟩ : ∀ W (h : Below w.heap.size w W), W.cell? ⟨fb, 0, none⟩ = some (.slice A l.length c) ∧ W.cell? ⟨fb, 1, none⟩ = some (.int .i64 p))
  have HW := Lib.hid hf
  have e1 : (nmA l p).1 = s := hs.symm
  have e2 : (nmA l p).2 = q := hq.symm
  rw [e1, e2]
  clear hb hf hs hq her e1 e2
  go_enter Tryd.func54, Tryd.ntmps54
  go_wp2_with fail
  refine wp_region_held_drew (S := SB [w]) (by kernel_rfl) (SB.start _) (fun hHeld => ?_)
  refine tkC 0 ?_
  refine tkC 1 ?_
  refine tkC 2 ?_
  refine tkA 3 (v := ?_) ?_ ?_
  rotate_left
  · intro W hSw; have hq := (HF.out W (SB.b0 hSw)).1; go_simp; try (with_reducible rfl)
  try simp only [Act.put, zA, zB, zC]
  refine tkC 4 ?_
  refine tkC 5 ?_
  refine tkC 6 ?_
  refine tkA 7 (v := ?_) ?_ ?_
  rotate_left
  · intro W hSw; have hq := (HF.out W (SB.b0 hSw)).2; go_simp; try (with_reducible rfl)
  try simp only [Act.put, zA, zB, zC]
  refine rdA (rs := [8]) (arC (i := 8) fun K hK => ?_)
  go_simp
  refine (HG.out _ (SB.b0 hHeld)).mono ?_
  rintro e w3 ⟨rfl, hw3⟩
  subst w3
  try (go_wp2_with fail)
  have hHeld' := hHeld
  refine hK.out _ _ ?_ (fun _ => ?_)
  · exact hHeld'
  clear hK K hHeld
  have hHeld := hHeld'
  clear hHeld'
  try simp only [Act.put, zA, zB, zC]
  refine tkC 9 ?_
  refine tkC 10 ?_
  refine tkC 11 ?_
  refine tkC 12 ?_
  refine tkC 13 ?_
  refine tkC 14 ?_
  refine tkC 15 ?_
  refine wpAnyH_done (by kernel_rfl) ?_ _
  have hb3 := SB.b0 hHeld
  obtain ⟨w3, hw3⟩ : ∃ w3, w3 = w.drew := ⟨_, rfl⟩
  rw [← hw3] at hb3 ⊢
  have hf3 := HW.out.below hb3
  have c1 := wh_cell hf3 (i := 1) rfl
  have z1 := hf3.frozen 1
  have HB3 := Lib.hid hb3
  have HF3 := Lib.hid hf3
  clear hHeld hw3 hb3 hf3
  go_wp2
  go_ret
  exact ⟨rfl, (Ex.ofBelow HB3.out).trans (ex_set HF3.out 1 _), HF3.out.set1 1 _⟩
end Go.Proofs.YtmdkonfmbbbepaaDoor
set_option linter.unusedVariables false
set_option linter.unusedSimpArgs false
namespace Go.Proofs.YtmdkonfmbbbepaaDoor
open Go.RowKit Go.Rst Go.Tp Go.Ts Go.Tk Go.Crc Go.On Go.Pg
def AB (rb B : Nat) (k : Nat) : Prop := k = rb ∨ B ≤ k
def DR (B : Nat) (w : World) (rb : Nat) (x : Ts.Sub) : Prop := ∃ av qv, Wh w rb (subC x av qv) 51 ∧ OI B w av x.acks ∧ OM B w qv x.queue
theorem Ex.grown {g : Nat} {w w' : World} (h : Ex (· = g) w w') : w.grownBy w' (some g) := ⟨h.os, h.tape, h.output, h.size, fun k hk hne => h.block k hk (fun e => hne (by rw [e]))⟩
theorem own_wh {w w' : World} {B : Nat} {e : TypeId} {sz n : Nat} {v : Value} {xs cs : List Value} {g : Nat} {t : TypeId} (h : w.ownsRow B e sz v n xs) (hw : Wh w g cs t) (hne : e ≠ t) (hg : w.grownBy w' (some g)) : w'.ownsRow B e sz v n xs :=
  own_apart h hg fun k hk he => by
    subst he
    obtain ⟨cur, hc⟩ := row_kind h k hk
    have h1 : w.heap[k]? = _ := hw
    rw [hc] at h1
    injection h1 with h1
    injection h1 with _ h2 _
    exact hne h2
theorem DR.other {B rb g : Nat} {w w1 : World} {x : Ts.Sub} {cs : List Value} {t : TypeId} (h : DR B w rb x) (hw : Wh w g cs t) (h0 : t ≠ 51) (h1 : 3 ≠ t) (h2 : 45 ≠ t) (hx : Ex (· = g) w w1) : DR B w1 rb x := by
  obtain ⟨av, qv, a, b, c⟩ := h
  have hne : ¬ rb = g := fun e => by
    subst e
    have h1 : w.heap[rb]? = _ := hw
    have h2 : w.heap[rb]? = _ := a
    rw [h1] at h2
    injection h2 with h2
    injection h2 with _ h3 _
    exact h0 h3
  exact ⟨av, qv, hx.wh a hne, own_wh b hw h1 hx.grown, own_wh c hw h2 hx.grown⟩
theorem DR.below {B rb : Nat} {w w1 : World} {x : Ts.Sub} (h : DR B w rb x) (hb : Below w.heap.size w w1) : DR B w1 rb x := by
  obtain ⟨av, qv, a, b, c⟩ := h
  exact ⟨av, qv, a.below hb, own_below b hb, own_below c hb⟩
theorem DR.field {B rb i : Nat} {w : World} {x x' : Ts.Sub} {v : Value} (h : DR B w rb x) (he : ∀ av qv, (subC x av qv).set i v = subC x' av qv) (ha : x'.acks = x.acks) (hq : x'.queue = x.queue) : DR B (w.setCell ⟨rb, i, none⟩ v) rb x' := by
  obtain ⟨av, qv, a, b, c⟩ := h
  have hg := (ex_set a i v).grown
  refine ⟨av, qv, ?_, ?_, ?_⟩
  · rw [← he]; exact a.set1 i v
  · rw [ha]; exact own_wh b a (by decide) hg
  · rw [hq]; exact own_wh c a (by decide) hg
theorem DR.cell {B rb : Nat} {w : World} {x : Ts.Sub} (h : DR B w rb x) (i : Nat) (hi : i < 10) : ∃ o, w.cell? ⟨rb, i, none⟩ = some o := by
  obtain ⟨av, qv, a, b, c⟩ := h
  exact ⟨_, wh_cell a (List.getElem?_eq_getElem (show i < (subC x av qv).length from hi))⟩
theorem DR.frozen {B rb : Nat} {w : World} {x : Ts.Sub} (h : DR B w rb x) (i : Nat) : w.frozen? ⟨rb, i, none⟩ = false := by
  obtain ⟨av, qv, a, b, c⟩ := h
  exact a.frozen i
theorem DR.ex {B rb : Nat} {w : World} {x : Ts.Sub} (h : DR B w rb x) (i : Nat) (v : Value) : Ex (AB rb B) w (w.setCell ⟨rb, i, none⟩ v) := by
  obtain ⟨av, qv, a, b, c⟩ := h
  exact (ex_set a i v).mono fun k _ hk => .inl hk
structure RdIn (B rb fb : Nat) (w : World) (x : Ts.Sub) (bv : Value) (l : List UInt8) : Prop where
  dr : DR B w rb x
  lt : rb < B
  sz : B ≤ w.heap.size
  hfb : B ≤ fb
  wf : Wh w fb [bv, .int .i64 0] 58
  rd : ∀ W, Ex (AB rb B) w W → RB W bv l
def GivesRd (B rb : Nat) (w : World) (x : Ts.Sub) (e : Ending) (w' : World) : Prop := e = .returned (.tuple #[]) ∧ DR B w' rb x ∧ Ex (AB rb B) w w'
theorem ex_fb {B rb fb : Nat} {w w' : World} (h : Ex (· = fb) w w') (hf : B ≤ fb) : Ex (AB rb B) w w' := h.mono fun k _ hk => .inr (by rw [hk]; exact hf)
set_option maxRecDepth 100000 in
set_option maxHeartbeats 2000000 in
theorem rd_note (B rb fb : Nat) (w : World) (x : Ts.Sub) (bv : Value) (l : List UInt8) (seq : Int) (h : RdIn B rb fb w x bv l) :
    Calls Tryd.prog 38 #[.pointer (some ⟨rb, 0, none⟩), .int .i64 seq, .pointer (some ⟨fb, 0, none⟩)] w (GivesRd B rb w { x with note := (txA l 0 30).1 }) := by
  have HT := Lib.hid (ftext_any fb bv l 0 30 w (h.rd w (Ex.refl _ _)) h.wf)
  have H := Lib.hid h
  clear h
  obtain ⟨s, hs⟩ : ∃ s, s = (txA l 0 30).1 := ⟨_, rfl⟩
  rw [← hs] at HT ⊢
  clear hs
  go_enter Tryd.func38, Tryd.ntmps38
  go_wp2_with fail
  refine HT.out.mono ?_
  rintro e w1 ⟨rfl, hx1, hf1⟩
  have hd1 := H.out.dr.other H.out.wf (by decide) (by decide) (by decide) hx1
  obtain ⟨o9, c9⟩ := hd1.cell 9 (by omega)
  have z9 := hd1.frozen 9
  have HD := Lib.hid hd1
  have HX := Lib.hid hx1
  clear hd1 hx1 hf1
  go_wp2
  go_end0
  exact ⟨rfl, HD.out.field (fun _ _ => rfl) rfl rfl, (ex_fb HX.out H.out.hfb).trans (HD.out.ex _ _)⟩
set_option maxRecDepth 100000 in
set_option maxHeartbeats 2000000 in
theorem rd_want (B rb fb : Nat) (w : World) (x : Ts.Sub) (bv : Value) (l : List UInt8) (seq : Int) (h : RdIn B rb fb w x bv l) :
    Calls Tryd.prog 41 #[.pointer (some ⟨rb, 0, none⟩), .int .i64 seq, .pointer (some ⟨fb, 0, none⟩)] w (GivesRd B rb w { x with want := (txA l 0 30).1 }) := by
  have HT := Lib.hid (ftext_any fb bv l 0 30 w (h.rd w (Ex.refl _ _)) h.wf)
  have H := Lib.hid h
  clear h
  obtain ⟨s, hs⟩ : ∃ s, s = (txA l 0 30).1 := ⟨_, rfl⟩
  rw [← hs] at HT ⊢
  clear hs
  go_enter Tryd.func41, Tryd.ntmps41
  go_wp2_with fail
  refine HT.out.mono ?_
  rintro e w1 ⟨rfl, hx1, hf1⟩
  have hd1 := H.out.dr.other H.out.wf (by decide) (by decide) (by decide) hx1
  obtain ⟨o9, c9⟩ := hd1.cell 3 (by omega)
  have z9 := hd1.frozen 3
  have HD := Lib.hid hd1
  have HX := Lib.hid hx1
  clear hd1 hx1 hf1
  go_wp2
  go_end0
  exact ⟨rfl, HD.out.field (fun _ _ => rfl) rfl rfl, (ex_fb HX.out H.out.hfb).trans (HD.out.ex _ _)⟩
set_option maxRecDepth 100000 in
set_option maxHeartbeats 2000000 in
theorem rd_ack (B rb fb : Nat) (w : World) (x : Ts.Sub) (bv : Value) (l : List UInt8) (seq : Int) (h : RdIn B rb fb w x bv l) (hl : x.acks.length ≤ 1000000) :
    Calls Tryd.prog 37 #[.pointer (some ⟨rb, 0, none⟩), .int .i64 seq, .pointer (some ⟨fb, 0, none⟩)] w (GivesRd B rb w { x with acks := x.acks ++ [seq] }) := by
  have HS := Lib.hid h.sz
  have HLT := Lib.hid h.lt
  obtain ⟨av, qv, a, b, c⟩ := h.dr
  have HW := Lib.hid a
  have HA := Lib.hid (show w.ownsRow B 3 1 av x.acks.length (x.acks.map iv) from b)
  have HQ := Lib.hid c
  obtain ⟨Aa, ca, rfl, _⟩ := own_shape HA.out
  have c7 := wh_cell a (i := 7) rfl
  have HSR := Lib.hid (fun (u : World) => src_cells (P := Tryd.prog) u rfl Tryd.underlying24 3 [.int .i64 seq] (fun u hu => by simp at hu; subst hu; rfl))
  have HB0 := Lib.hid ((Below.refl B w).alloc h.sz (Obj.cells #[.int .i64 seq] 3))
  clear h a b c
  go_enter Tryd.func37, Tryd.ntmps37
  go_wp2_with (at_builtin; refine wpList_own rfl (.tmp 11) (.tmp 13) 24 24 rfl B 3 _ 1 8 Tryd.underlying24 infoNum rfl rfl (HA.out.alloc _) rfl (HSR.out w) HB0.out (Nat.le_refl _) ?_ ?_ ?_ ?_)
  · unfold maxLen; omega
  · omega
  · have := HS.out; simp; omega
  · intro v8 w8 hown8 hbel8 hgr
    have hw8 : Wh w8 rb (subC x (.slice Aa x.acks.length ca) qv) 51 := wh_grown (HW.out.alloc _) (HA.out.alloc _) (by decide) hgr
    have hq8 : OM B w8 qv x.queue := own_two (own_below HQ.out ((Below.refl _ w).alloc (Nat.le_refl _) _)) (HA.out.alloc (Obj.cells #[.int .i64 seq] 3)) (by decide) hgr
    have ha8 : w8.ownsRow B 3 1 v8 (x.acks ++ [seq]).length ((x.acks ++ [seq]).map iv) := by rw [List.length_append, List.map_append]; exact hown8
    have c78 := wh_cell hw8 (i := 7) rfl
    have z78 := hw8.frozen 7
    obtain ⟨A8, k8, rfl, _⟩ := own_shape hown8
    have hex : Ex (AB rb B) w w8 := ⟨hbel8.os, hbel8.tape, hbel8.output, hbel8.size, fun k hk hA => hbel8.block k (by unfold AB at hA; omega)⟩
    have H8 := Lib.hid hw8
    have HA8 := Lib.hid ha8
    have HQ8 := Lib.hid hq8
    have HX := Lib.hid hex
    clear hw8 ha8 hq8 hex hown8 hbel8 hgr
    go_wp2
    go_end0
    have hg := (ex_set H8.out 7 (.slice A8 (x.acks.length + 1) k8)).grown
    refine ⟨rfl, ⟨.slice A8 (x.acks.length + 1) k8, qv, H8.out.set1 7 _, ?_, own_wh HQ8.out H8.out (by decide) hg⟩, HX.out.trans ((ex_set H8.out 7 _).mono fun k _ hk => .inl hk)⟩
    exact own_wh HA8.out H8.out (by decide) hg
set_option maxRecDepth 100000 in
set_option maxHeartbeats 4000000 in
theorem rd_sub (B rb fb : Nat) (w : World) (x : Ts.Sub) (bv : Value) (l : List UInt8) (seq : Int) (h : RdIn B rb fb w x bv l) :
    Calls Tryd.prog 40 #[.pointer (some ⟨rb, 0, none⟩), .int .i64 seq, .pointer (some ⟨fb, 0, none⟩)] w (GivesRd B rb w (subD x l)) := by
  have HT := Lib.hid (ftext_any fb bv l 0 30 w (h.rd w (Ex.refl _ _)) h.wf)
  have H := Lib.hid h
  clear h
  obtain ⟨s1, p1, h1⟩ : ∃ s p, txA l 0 30 = (s, p) := ⟨_, _, rfl⟩
  obtain ⟨s2, p2, h2⟩ : ∃ s p, txA l p1 30 = (s, p) := ⟨_, _, rfl⟩
  obtain ⟨n3, p3, h3⟩ : ∃ s p, nmA l p2 = (s, p) := ⟨_, _, rfl⟩
  obtain ⟨n4, p4, h4⟩ : ∃ s p, nmA l p3 = (s, p) := ⟨_, _, rfl⟩
  obtain ⟨n5, p5, h5⟩ : ∃ s p, nmA l p4 = (s, p) := ⟨_, _, rfl⟩
  have hres : subD x l = { x with name := s1, topic := s2, lease := n3, most := n4, floor := n5 } := by
    unfold subD
    simp only [h1, h2, h3, h4, h5]
  rw [hres]
  rw [h1] at HT
  have HT2 := Lib.hid (fun W (hx : Ex (AB rb B) w W) (hf : Wh W fb [bv, .int .i64 p1] 58) => by have := ftext_any fb bv l p1 30 W (H.out.rd W hx) hf; rw [h2] at this; exact this : ∀ W (hx : Ex (AB rb B) w W) (hf : Wh W fb [bv, .int .i64 p1] 58), Calls Tryd.prog 53 #[.pointer (some ⟨fb, 0, none⟩), .int .i64 30] W fun e w' => e = .returned (sv s2) ∧ Ex (· = fb) W w' ∧ Wh w' fb [bv, .int .i64 p2] 58)
  have HN3 := Lib.hid (fun W (hx : Ex (AB rb B) w W) (hf : Wh W fb [bv, .int .i64 p2] 58) => by have := fnum_any fb bv l p2 W (H.out.rd W hx) hf; rw [h3] at this; exact this : ∀ W (hx : Ex (AB rb B) w W) (hf : Wh W fb [bv, .int .i64 p2] 58), Calls Tryd.prog 54 #[.pointer (some ⟨fb, 0, none⟩)] W fun e w' => e = .returned (.int .i64 n3) ∧ Ex (· = fb) W w' ∧ Wh w' fb [bv, .int .i64 p3] 58)
  have HN4 := Lib.hid (fun W (hx : Ex (AB rb B) w W) (hf : Wh W fb [bv, .int .i64 p3] 58) => by have := fnum_any fb bv l p3 W (H.out.rd W hx) hf; rw [h4] at this; exact this : ∀ W (hx : Ex (AB rb B) w W) (hf : Wh W fb [bv, .int .i64 p3] 58), Calls Tryd.prog 54 #[.pointer (some ⟨fb, 0, none⟩)] W fun e w' => e = .returned (.int .i64 n4) ∧ Ex (· = fb) W w' ∧ Wh w' fb [bv, .int .i64 p4] 58)
  have HN5 := Lib.hid (fun W (hx : Ex (AB rb B) w W) (hf : Wh W fb [bv, .int .i64 p4] 58) => by have := fnum_any fb bv l p4 W (H.out.rd W hx) hf; rw [h5] at this; exact this : ∀ W (hx : Ex (AB rb B) w W) (hf : Wh W fb [bv, .int .i64 p4] 58), Calls Tryd.prog 54 #[.pointer (some ⟨fb, 0, none⟩)] W fun e w' => e = .returned (.int .i64 n5) ∧ Ex (· = fb) W w' ∧ Wh w' fb [bv, .int .i64 p5] 58)
  clear h1 h2 h3 h4 h5 hres
  go_enter Tryd.func40, Tryd.ntmps40
  go_wp2_with fail
  refine HT.out.mono ?_
  rintro e w1 ⟨rfl, hx1, hf1⟩
  have HD1 := Lib.hid (H.out.dr.other H.out.wf (by decide) (by decide) (by decide) hx1)
  have HX1 := Lib.hid (ex_fb hx1 H.out.hfb : Ex (AB rb B) w w1)
  have HF1 := Lib.hid hf1
  clear hx1 hf1
  go_wp2_with fail
  refine (HT2.out _ HX1.out HF1.out).mono ?_
  rintro e w2 ⟨rfl, hx2, hf2⟩
  have hd2 := HD1.out.other HF1.out (by decide) (by decide) (by decide) hx2
  obtain ⟨o1, c1⟩ := hd2.cell 1 (by omega)
  obtain ⟨o2, c2⟩ := hd2.cell 2 (by omega)
  have z1 := hd2.frozen 1
  have z2 := hd2.frozen 2
  have HD2 := Lib.hid hd2
  have HX2 := Lib.hid (HX1.out.trans (ex_fb hx2 H.out.hfb))
  have HF2 := Lib.hid hf2
  clear hx2 hf2 hd2 HF1
  go_wp2_with fail
  have hd3 : DR B ((w2.setCell ⟨rb, 1, none⟩ (sv s1)).setCell ⟨rb, 2, none⟩ (sv s2)) rb { x with name := s1, topic := s2 } := (HD2.out.field (i := 1) (v := sv s1) (x' := { x with name := s1 }) (fun _ _ => rfl) rfl rfl).field (fun _ _ => rfl) rfl rfl
  have hx3 : Ex (AB rb B) w ((w2.setCell ⟨rb, 1, none⟩ (sv s1)).setCell ⟨rb, 2, none⟩ (sv s2)) := (HX2.out.trans (HD2.out.ex 1 (sv s1))).trans ((HD2.out.field (i := 1) (v := sv s1) (x' := { x with name := s1 }) (fun _ _ => rfl) rfl rfl).ex 2 (sv s2))
  have hne : fb ≠ rb := by have := H.out.hfb; have := H.out.lt; omega
  have hf3 : Wh ((w2.setCell ⟨rb, 1, none⟩ (sv s1)).setCell ⟨rb, 2, none⟩ (sv s2)) fb [bv, .int .i64 p2] 58 := (HF2.out.set1Other hne 1 _).set1Other hne 2 _
  generalize ((w2.setCell ⟨rb, 1, none⟩ (sv s1)).setCell ⟨rb, 2, none⟩ (sv s2)) = w3 at *
  have HD3 := Lib.hid hd3
  have HX3 := Lib.hid hx3
  have HF3 := Lib.hid hf3
  clear hd3 hx3 hf3 hne c1 c2 z1 z2
  refine (HN3.out _ HX3.out HF3.out).mono ?_
  rintro e w4 ⟨rfl, hx4, hf4⟩
  have HD4 := Lib.hid (HD3.out.other HF3.out (by decide) (by decide) (by decide) hx4)
  have HX4 := Lib.hid (HX3.out.trans (ex_fb hx4 H.out.hfb))
  have HF4 := Lib.hid hf4
  clear hx4 hf4
  go_wp2_with fail
  refine (HN4.out _ HX4.out HF4.out).mono ?_
  rintro e w5 ⟨rfl, hx5, hf5⟩
  have HD5 := Lib.hid (HD4.out.other HF4.out (by decide) (by decide) (by decide) hx5)
  have HX5 := Lib.hid (HX4.out.trans (ex_fb hx5 H.out.hfb))
  have HF5 := Lib.hid hf5
  clear hx5 hf5
  go_wp2_with fail
  refine (HN5.out _ HX5.out HF5.out).mono ?_
  rintro e w6 ⟨rfl, hx6, hf6⟩
  have hd6 := HD5.out.other HF5.out (by decide) (by decide) (by decide) hx6
  obtain ⟨o4, c4⟩ := hd6.cell 4 (by omega)
  obtain ⟨o5, c5⟩ := hd6.cell 5 (by omega)
  obtain ⟨o6, c6⟩ := hd6.cell 6 (by omega)
  have z4 := hd6.frozen 4
  have z5 := hd6.frozen 5
  have z6 := hd6.frozen 6
  have HD6 := Lib.hid hd6
  have HX6 := Lib.hid (HX5.out.trans (ex_fb hx6 H.out.hfb))
  clear hx6 hf6 hd6
  go_wp2
  go_end0
  have e1 := HD6.out.field (i := 4) (v := .int .i64 n3) (x' := { x with name := s1, topic := s2, lease := n3 }) (fun _ _ => rfl) rfl rfl
  have e2 := e1.field (i := 5) (v := .int .i64 n4) (x' := { x with name := s1, topic := s2, lease := n3, most := n4 }) (fun _ _ => rfl) rfl rfl
  exact ⟨rfl, e2.field (fun _ _ => rfl) rfl rfl, ((HX6.out.trans (HD6.out.ex 4 _)).trans (e1.ex 5 _)).trans (e2.ex 6 _)⟩
end Go.Proofs.YtmdkonfmbbbepaaDoor
set_option linter.unusedVariables false
set_option linter.unusedSimpArgs false
namespace Go.Proofs.YtmdkonfmbbbepaaDoor
open Go.RowKit Go.Rst Go.Tp Go.Ts Go.Tk Go.Crc Go.On Go.Pg
def cmpI (a b : Int) : Int := if a < b then -1 else if b < a then 1 else 0
set_option maxRecDepth 100000 in
set_option maxHeartbeats 2000000 in
theorem isnan_any (a : Int) (w : World) : Calls Tryd.prog 68 #[.int .i64 a] w fun e w' => e = .returned (.bool false) ∧ w = w' := by
  have q1 : (a != a) = false := by simp
  go_enter Tryd.func68, Tryd.ntmps68
  go_wp2
  go_ret
  exact ⟨rfl, rfl⟩
set_option maxRecDepth 100000 in
set_option maxHeartbeats 2000000 in
theorem compare_any (a b : Int) (w : World) : Calls Tryd.prog 57 #[.int .i64 a, .int .i64 b] w fun e w' => e = .returned (.int .i64 (cmpI a b)) ∧ w = w' := by
  obtain ⟨r, hr⟩ : ∃ r, r = cmpI a b := ⟨_, rfl⟩
  rw [← hr]
  rcases Int.lt_trichotomy a b with h | h | h
  · have e : r = -1 := by rw [hr]; simp [cmpI, h]
    subst e
    clear hr
    go_enter Tryd.func57, Tryd.ntmps57
    go_wp2_with (first | (go_at_call 68; refine (isnan_any _ _).mono ?_; rintro e wq ⟨rfl, rfl⟩))
    go_ret
    exact ⟨rfl, rfl⟩
  · have e : r = 0 := by rw [hr]; simp [cmpI, h]
    have h1 : ¬ a < b := by omega
    have h2 : ¬ b < a := by omega
    subst e
    clear hr h
    go_enter Tryd.func57, Tryd.ntmps57
    go_wp2_with (first | (go_at_call 68; refine (isnan_any _ _).mono ?_; rintro e wq ⟨rfl, rfl⟩))
    go_ret
    exact ⟨rfl, rfl⟩
  · have h1 : ¬ a < b := by omega
    have e : r = 1 := by rw [hr]; simp [cmpI, h, h1]
    subst e
    clear hr
    go_enter Tryd.func57, Tryd.ntmps57
    go_wp2_with (first | (go_at_call 68; refine (isnan_any _ _).mono ?_; rintro e wq ⟨rfl, rfl⟩))
    go_ret
    exact ⟨rfl, rfl⟩
set_option maxRecDepth 100000 in
set_option maxHeartbeats 2000000 in
theorem ext1_any (M : List Value) (s : Int) (h0 : M[0]? = some (.int .i64 s)) (b : Int) (w : World) : Calls Tryd.prog 56 #[.agg M.toArray, .int .i64 b] w fun e w' => e = .returned (.int .i64 (cmpI s b)) ∧ Below w.heap.size w w' := by
  have HC := Lib.hid (fun W => compare_any s b W)
  obtain ⟨D, rfl⟩ : ∃ D, M = .int .i64 s :: D := by
    cases M with
    | nil => simp at h0
    | cons c D => exact ⟨D, by simpa using h0⟩
  clear h0
  have HB := Lib.hid ((Below.refl w.heap.size w).alloc (Nat.le_refl _) (Obj.cells (.int .i64 s :: D : List Value).toArray 45))
  go_enter Tryd.func56, Tryd.ntmps56
  go_wp2_with fail
  refine (HC.out _).mono ?_
  rintro e w3 ⟨rfl, hw3⟩
  subst w3
  go_wp2
  go_ret
  exact ⟨rfl, HB.out⟩
end Go.Proofs.YtmdkonfmbbbepaaDoor
set_option linter.unusedVariables false
set_option linter.unusedSimpArgs false
namespace Go.Proofs.YtmdkonfmbbbepaaDoor
open Go.RowKit Go.Rst Go.Tp Go.Ts Go.Tk Go.Crc Go.On Go.Pg
def hitB (q : List Msg) (s : Int) (i : Nat) : Bool := match q[i]? with | some m => decide (m.seq = s) | none => false
theorem hit_in {q : List Msg} {s : Int} {i : Nat} (h : i < q.length) : hitB q s i = decide (q[i].seq = s) := by unfold hitB; rw [List.getElem?_eq_getElem h]
theorem hit_out {q : List Msg} {s : Int} {i : Nat} (h : q.length ≤ i) : hitB q s i = false := by unfold hitB; rw [List.getElem?_eq_none h]
set_option maxRecDepth 100000 in
set_option maxHeartbeats 8000000 in
theorem search_any (v : Value) (q : List Msg) (s : Int) (w : World) (hv : RM w v q) (hl : q.length ≤ 1000000) :
    Calls Tryd.prog 55 #[v, .int .i64 s, .func (.func 56) #[] #[]] w fun e w' => e = .returned (.tuple #[.int .i64 (ixD q s : Nat), .bool (hitB q s (ixD q s))]) ∧ Below w.heap.size w w' := by
  obtain ⟨A, c, rfl, hc1, hc2⟩ := hv.shape
  unfold maxLen at hc2
  have HV := Lib.hid hv
  obtain ⟨R, hR⟩ : ∃ R, R = ixD q s := ⟨_, rfl⟩
  rw [← hR]
  have HR := Lib.hid hR.symm
  obtain ⟨ob, hob⟩ : ∃ ob, ob = hitB q s R := ⟨_, rfl⟩
  rw [← hob]
  have HOB := Lib.hid hob
  clear hv hR hob
  go_enter Tryd.func55, Tryd.ntmps55
  go_wp2_with fail
  go_loopw [9, 10] (fun iv jv wr => ∃ i j f : Nat, iv = .int .i64 i ∧ jv = .int .i64 j ∧ i ≤ j ∧ j ≤ q.length ∧ j - i ≤ f ∧ bsr q s f i j = R ∧ Below w.heap.size w wr) (fun iv jv _ => (intOf jv - intOf iv).toNat)
  case atStart => exact ⟨0, q.length, q.length, rfl, rfl, Nat.zero_le _, Nat.le_refl _, by omega, HR.out, Below.refl _ _⟩
  case round =>
    obtain ⟨i, j, f, rfl, rfl, hij, hj, hf, hb, hbel⟩ := hrel
    by_cases hlt : i < j
    · obtain ⟨f', rfl⟩ : ∃ f', f = f' + 1 := ⟨f - 1, by omega⟩
      have hh : (i + j) / 2 < q.length := by omega
      unfold bsr at hb
      rw [if_pos hlt, show q.getD ((i + j) / 2) ⟨0, [], [], 0, 0, false, [], 0⟩ = q[(i + j) / 2] by rw [List.getD_eq_getElem?_getD, List.getElem?_eq_getElem hh]; rfl] at hb
      obtain ⟨b, off, rfl, hbq, hrg⟩ := rm_at (HV.out.below stays_cm hbel) hh
      obtain ⟨m, hm⟩ : ∃ m, m = q[(i + j) / 2] := ⟨_, rfl⟩
      rw [← hm] at hb hrg
      obtain ⟨h, hhe⟩ : ∃ h, h = (i + j) / 2 := ⟨_, rfl⟩
      rw [← hhe] at hb hrg hh
      have hhI : (h : Int) = ((i : Int) + (j : Int)) / 2 := by omega
      obtain ⟨M, hM⟩ : ∃ M, M = msgC m := ⟨_, rfl⟩
      rw [← hM] at hrg
      have HM0 := Lib.hid (show M[0]? = some (.int .i64 m.seq) by rw [hM]; rfl)
      have HML := Lib.hid (show (Tryd.prog.info? 45).map (·.size) = some M.length by rw [hM]; exact size57)
      have HRG := Lib.hid hrg
      have HBL := Lib.hid hbel
      have HBS := Lib.hid hb
      have HIJ := Lib.hid (And.intro hhe (And.intro hf hlt))
      clear hm hM hrg hbel hb hhe
      have g1 : IntKind.u64.wrap ((i : Int) + (j : Int)) = (i : Int) + (j : Int) := by rw [IntKind.wrap_u64]; omega
      have g2 : ((i : Int) + (j : Int)) / 2 = (h : Int) := hhI.symm
      have HHI := Lib.hid hhI
      clear hhI
      go_wp2_with (first | (refine wpList_load_midG (by rfl) 45 (.tmp 27) rfl b (off + h * 8) rfl _ _ HRG.out Tryd.underlying45 rfl HML.out ?_))
      refine (ext1_any M m.seq HM0.out s wr).mono ?_
      rintro e w5 ⟨rfl, hb5⟩
      have HB5 := Lib.hid (HBL.out.trans (hb5.mono HBL.out.size))
      clear hb5
      by_cases hc : m.seq < s
      · have hv : cmpI m.seq s = -1 := by unfold cmpI; rw [if_pos hc]
        have HX := Lib.hid (show bsr q s f' (h + 1) j = R by have := HBS.out; rw [if_pos hc] at this; exact this)
        rw [hv]
        clear hc hv HBS g1
        go_wp2
        go_roundw
        case rel =>
          obtain ⟨x1, x2, x3⟩ := HIJ.out
          exact ⟨h + 1, j, f', by go_num, rfl, by omega, hj, by omega, HX.out, HB5.out⟩
        case measure =>
          obtain ⟨x1, x2, x3⟩ := HIJ.out
          simp [intOf]; omega
      · have hv : ¬ cmpI m.seq s < 0 := by unfold cmpI; rw [if_neg hc]; split <;> omega
        have HX := Lib.hid (show bsr q s f' i h = R by have := HBS.out; rw [if_neg hc] at this; exact this)
        generalize cmpI m.seq s = cc at *
        clear hc HBS g1
        go_wp2
        go_roundw
        case rel =>
          obtain ⟨x1, x2, x3⟩ := HIJ.out
          exact ⟨i, h, f', rfl, rfl, by omega, by omega, by omega, HX.out, HB5.out⟩
        case measure =>
          obtain ⟨x1, x2, x3⟩ := HIJ.out
          simp [intOf]; omega
    · have hie : i = R := by
        cases f with
        | zero => simpa [bsr] using hb
        | succ f => unfold bsr at hb; rw [if_neg hlt] at hb; exact hb
      subst hie
      have HBL := Lib.hid hbel
      have HJ := Lib.hid hj
      have HIJ := Lib.hid hij
      have q0 : ¬ (i : Int) < (j : Int) := by omega
      clear hb hf
      by_cases hin : i < q.length
      · obtain ⟨b, off, rfl, hbq, hrg⟩ := rm_at (HV.out.below stays_cm hbel) hin
        obtain ⟨m, hm⟩ : ∃ m, m = q[i] := ⟨_, rfl⟩
        have HRES := Lib.hid (show ob = decide (m.seq = s) by rw [HOB.out, hit_in hin, ← hm])
        rw [← hm] at hrg
        obtain ⟨M, hM⟩ : ∃ M, M = msgC m := ⟨_, rfl⟩
        rw [← hM] at hrg
        have HM0 := Lib.hid (show M[0]? = some (.int .i64 m.seq) by rw [hM]; rfl)
        have HML := Lib.hid (show (Tryd.prog.info? 45).map (·.size) = some M.length by rw [hM]; exact size57)
        have HRG := Lib.hid hrg
        have q1 : (i : Int) < (q.length : Int) := by omega
        clear hm hM hrg hbel hij hj
        go_wp2_with (first | (refine wpList_load_midG (by rfl) 45 (.tmp 43) rfl b (off + i * 8) rfl _ _ HRG.out Tryd.underlying45 rfl HML.out ?_))
        refine (ext1_any M m.seq HM0.out s wr).mono ?_
        rintro e w5 ⟨rfl, hb5⟩
        have HB5 := Lib.hid (HBL.out.trans (hb5.mono HBL.out.size))
        clear hb5
        by_cases hc : m.seq = s
        · have hv : cmpI m.seq s = 0 := by unfold cmpI; rw [if_neg (by omega), if_neg (by omega)]
          have HE := Lib.hid (show ob = true by rw [HRES.out]; exact decide_eq_true hc)
          rw [hv]
          clear hc hv
          go_wp2
          go_ret2
          exact ⟨by rw [HE.out] <;> rfl, HB5.out⟩
        · have hv : (cmpI m.seq s == 0) = false := by
            unfold cmpI
            split
            · rfl
            · split
              · rfl
              · omega
          have HE := Lib.hid (show ob = false by rw [HRES.out]; exact decide_eq_false hc)
          generalize cmpI m.seq s = cc at *
          clear hc
          go_wp2
          go_ret2
          exact ⟨by rw [HE.out] <;> rfl, HB5.out⟩
      · have HE := Lib.hid (show ob = false by rw [HOB.out]; exact hit_out (by omega))
        have q1 : ¬ (i : Int) < (q.length : Int) := by omega
        clear hbel hij hj
        go_wp2
        go_ret2
        exact ⟨by rw [HE.out] <;> rfl, HBL.out⟩
end Go.Proofs.YtmdkonfmbbbepaaDoor
set_option linter.unusedVariables false
set_option linter.unusedSimpArgs false
namespace Go.Proofs.YtmdkonfmbbbepaaDoor
open Go.RowKit Go.Rst Go.Tp Go.Ts Go.Tk Go.Crc Go.On Go.Pg
theorem ex_new {A : Nat → Prop} {w W : World} {g : Nat} {cs : List Value} {t : TypeId} (h : Ex A w W) (hw : Wh W g cs t) (hg : w.heap.size ≤ g) (i : Nat) (v : Value) : Ex A w (W.setCell ⟨g, i, none⟩ v) := by
  have h2 := ex_set hw i v
  exact ⟨h2.os.trans h.os, h2.tape.trans h.tape, h2.output.trans h.output, Nat.le_trans h.size h2.size, fun k hk hA => (h2.block k (Nat.lt_of_lt_of_le hk h.size) (by omega)).trans (h.block k hk hA)⟩
set_option maxRecDepth 100000 in
set_option maxHeartbeats 8000000 in
theorem rd_message (B rb fb : Nat) (w : World) (x : Ts.Sub) (bv : Value) (l : List UInt8) (seq : Int) (h : RdIn B rb fb w x bv l) (hl : x.queue.length ≤ 1000000) :
    Calls Tryd.prog 39 #[.pointer (some ⟨rb, 0, none⟩), .int .i64 seq, .pointer (some ⟨fb, 0, none⟩)] w (GivesRd B rb w { x with queue := x.queue ++ [msgD seq l] }) := by
  have H := Lib.hid h
  clear h
  obtain ⟨s1, p1, h1⟩ : ∃ s p, txA l 0 60 = (s, p) := ⟨_, _, rfl⟩
  obtain ⟨s2, p2, h2⟩ : ∃ s p, txA l p1 30 = (s, p) := ⟨_, _, rfl⟩
  obtain ⟨n3, p3, h3⟩ : ∃ s p, nmA l p2 = (s, p) := ⟨_, _, rfl⟩
  obtain ⟨n4, p4, h4⟩ : ∃ s p, nmA l p3 = (s, p) := ⟨_, _, rfl⟩
  obtain ⟨n5, p5, h5⟩ : ∃ s p, nmA l p4 = (s, p) := ⟨_, _, rfl⟩
  have hres : msgD seq l = ⟨seq, s1, s2, n3, n4, n5 == 1, [], 0⟩ := by
    unfold msgD
    simp only [h1, h2, h3, h4, h5]
  obtain ⟨md, hmd⟩ : ∃ md, md = msgD seq l := ⟨_, rfl⟩
  rw [← hmd]
  have HT1 := Lib.hid (fun W (hx : Ex (AB rb B) w W) (hf : Wh W fb [bv, .int .i64 0] 58) => by have := ftext_any fb bv l 0 60 W (H.out.rd W hx) hf; rw [h1] at this; exact this : ∀ W (hx : Ex (AB rb B) w W) (hf : Wh W fb [bv, .int .i64 0] 58), Calls Tryd.prog 53 #[.pointer (some ⟨fb, 0, none⟩), .int .i64 60] W fun e w' => e = .returned (sv s1) ∧ Ex (· = fb) W w' ∧ Wh w' fb [bv, .int .i64 p1] 58)
  have HT2 := Lib.hid (fun W (hx : Ex (AB rb B) w W) (hf : Wh W fb [bv, .int .i64 p1] 58) => by have := ftext_any fb bv l p1 30 W (H.out.rd W hx) hf; rw [h2] at this; exact this : ∀ W (hx : Ex (AB rb B) w W) (hf : Wh W fb [bv, .int .i64 p1] 58), Calls Tryd.prog 53 #[.pointer (some ⟨fb, 0, none⟩), .int .i64 30] W fun e w' => e = .returned (sv s2) ∧ Ex (· = fb) W w' ∧ Wh w' fb [bv, .int .i64 p2] 58)
  have HN3 := Lib.hid (fun W (hx : Ex (AB rb B) w W) (hf : Wh W fb [bv, .int .i64 p2] 58) => by have := fnum_any fb bv l p2 W (H.out.rd W hx) hf; rw [h3] at this; exact this : ∀ W (hx : Ex (AB rb B) w W) (hf : Wh W fb [bv, .int .i64 p2] 58), Calls Tryd.prog 54 #[.pointer (some ⟨fb, 0, none⟩)] W fun e w' => e = .returned (.int .i64 n3) ∧ Ex (· = fb) W w' ∧ Wh w' fb [bv, .int .i64 p3] 58)
  have HN4 := Lib.hid (fun W (hx : Ex (AB rb B) w W) (hf : Wh W fb [bv, .int .i64 p3] 58) => by have := fnum_any fb bv l p3 W (H.out.rd W hx) hf; rw [h4] at this; exact this : ∀ W (hx : Ex (AB rb B) w W) (hf : Wh W fb [bv, .int .i64 p3] 58), Calls Tryd.prog 54 #[.pointer (some ⟨fb, 0, none⟩)] W fun e w' => e = .returned (.int .i64 n4) ∧ Ex (· = fb) W w' ∧ Wh w' fb [bv, .int .i64 p4] 58)
  have HN5 := Lib.hid (fun W (hx : Ex (AB rb B) w W) (hf : Wh W fb [bv, .int .i64 p4] 58) => by have := fnum_any fb bv l p4 W (H.out.rd W hx) hf; rw [h5] at this; exact this : ∀ W (hx : Ex (AB rb B) w W) (hf : Wh W fb [bv, .int .i64 p4] 58), Calls Tryd.prog 54 #[.pointer (some ⟨fb, 0, none⟩)] W fun e w' => e = .returned (.int .i64 n5) ∧ Ex (· = fb) W w' ∧ Wh w' fb [bv, .int .i64 p5] 58)
  obtain ⟨M, hM⟩ : ∃ M, M = msgC md := ⟨_, rfl⟩
  have HME := Lib.hid hM
  have HMM : M = [.int .i64 seq, sv s1, sv s2, .int .i64 n3, .int .i64 n4, .bool (n5 == 1), .string ⟨#[]⟩, .int .i64 0] := by rw [hM, hmd, hres]; rfl
  have HMQ := Lib.hid HMM
  have HM8 := Lib.hid (show M.length = 8 by rw [HMM]; rfl)
  have HML := Lib.hid (show (Tryd.prog.info? 45).map (·.size) = some M.length by rw [HM8.out]; exact size57)
  have HMO := Lib.hid (fun v (hv : v ∈ M) => by rw [HMM] at hv; simp only [List.mem_cons, List.not_mem_nil, or_false] at hv; rcases hv with rfl | rfl | rfl | rfl | rfl | rfl | rfl | rfl <;> rfl : ∀ v ∈ M, v.oneCell' = true)
  clear h1 h2 h3 h4 h5 hres hM HMM hmd
  have HSZ := Lib.hid H.out.sz
  obtain ⟨mb, hmb⟩ : ∃ mb, mb = w.heap.size := ⟨_, rfl⟩
  obtain ⟨W1, hW1⟩ : ∃ W1, W1 = w.alloc (.cells #[.int .i64 seq, .string ⟨#[]⟩, .string ⟨#[]⟩, .int .i64 0, .int .i64 0, .bool false, .string ⟨#[]⟩, .int .i64 0] 45) := ⟨_, rfl⟩
  have hm1 : Wh W1 mb [.int .i64 seq, .string ⟨#[]⟩, .string ⟨#[]⟩, .int .i64 0, .int .i64 0, .bool false, .string ⟨#[]⟩, .int .i64 0] 45 := by rw [hW1, hmb]; exact Wh.new w _ _
  have hb1 : Below w.heap.size w W1 := by rw [hW1]; exact (Below.refl _ _).alloc (Nat.le_refl _) _
  have HX1 := Lib.hid (Ex.ofBelow (A := (· = fb)) hb1)
  have HF1 := Lib.hid (H.out.wf.below hb1)
  have HM1 := Lib.hid hm1
  have HNE := Lib.hid (show ¬ mb = fb by have := H.out.wf.lt; omega)
  have HNW := Lib.hid (show w.heap.size ≤ mb by omega)
  have HNR := Lib.hid (show mb ≠ rb by have := H.out.lt; have := H.out.sz; omega)
  have HW1 := Lib.hid hW1
  have HMB := Lib.hid hmb
  clear hm1 hb1 hW1 hmb
  go_enter Tryd.func39, Tryd.ntmps39
  go_wp2_with fail
  rw [← HW1.out, ← HMB.out]
  refine (HT1.out _ (ex_fb HX1.out H.out.hfb) HF1.out).mono ?_
  rintro e w2 ⟨rfl, hx, hf⟩
  have HX2 := Lib.hid (HX1.out.trans hx)
  have HM2 := Lib.hid (hx.wh HM1.out HNE.out)
  have HF2 := Lib.hid hf
  clear hx hf
  go_wp2_with fail
  refine (HT2.out _ (ex_fb HX2.out H.out.hfb) HF2.out).mono ?_
  rintro e w3 ⟨rfl, hx, hf⟩
  have HX3 := Lib.hid (HX2.out.trans hx)
  have HM3 := Lib.hid (hx.wh HM2.out HNE.out)
  have HF3 := Lib.hid hf
  clear hx hf
  have c1 := wh_cell HM3.out (i := 1) rfl
  have c2 := wh_cell HM3.out (i := 2) rfl
  have z1 := HM3.out.frozen 1
  have z2 := HM3.out.frozen 2
  go_wp2_with fail
  have hm3 : Wh ((w3.setCell ⟨mb, 1, none⟩ (sv s1)).setCell ⟨mb, 2, none⟩ (sv s2)) mb [.int .i64 seq, sv s1, sv s2, .int .i64 0, .int .i64 0, .bool false, .string ⟨#[]⟩, .int .i64 0] 45 := (HM3.out.set1 1 _).set1 2 _
  have hx3 := ex_new (ex_new HX3.out HM3.out HNW.out 1 (sv s1)) (HM3.out.set1 1 _) HNW.out 2 (sv s2)
  have hf3 := (HF3.out.set1Other (Ne.symm HNE.out) 1 (sv s1)).set1Other (Ne.symm HNE.out) 2 (sv s2)
  clear HM3 HX3 HF3 c1 c2 z1 z2
  generalize ((w3.setCell ⟨mb, 1, none⟩ (sv s1)).setCell ⟨mb, 2, none⟩ (sv s2)) = w3 at *
  have HM3 := Lib.hid hm3
  have HX3 := Lib.hid hx3
  have HF3 := Lib.hid hf3
  clear hm3 hx3 hf3
  refine (HN3.out _ (ex_fb HX3.out H.out.hfb) HF3.out).mono ?_
  rintro e w4 ⟨rfl, hx, hf⟩
  have HX4 := Lib.hid (HX3.out.trans hx)
  have HM4 := Lib.hid (hx.wh HM3.out HNE.out)
  have HF4 := Lib.hid hf
  clear hx hf
  go_wp2_with fail
  refine (HN4.out _ (ex_fb HX4.out H.out.hfb) HF4.out).mono ?_
  rintro e w5 ⟨rfl, hx, hf⟩
  have HX5 := Lib.hid (HX4.out.trans hx)
  have HM5 := Lib.hid (hx.wh HM4.out HNE.out)
  have HF5 := Lib.hid hf
  clear hx hf
  go_wp2_with fail
  refine (HN5.out _ (ex_fb HX5.out H.out.hfb) HF5.out).mono ?_
  rintro e w6 ⟨rfl, hx, hf⟩
  have HX6 := Lib.hid (HX5.out.trans hx)
  have HM6 := Lib.hid (hx.wh HM5.out HNE.out)
  have HF6 := Lib.hid hf
  clear hx hf
  have c3 := wh_cell HM6.out (i := 3) rfl
  have c4 := wh_cell HM6.out (i := 4) rfl
  have c5 := wh_cell HM6.out (i := 5) rfl
  have z3 := HM6.out.frozen 3
  have z4 := HM6.out.frozen 4
  have z5 := HM6.out.frozen 5
  go_wp2_with fail
  have hm7 : Wh (((w6.setCell ⟨mb, 3, none⟩ (.int .i64 n3)).setCell ⟨mb, 4, none⟩ (.int .i64 n4)).setCell ⟨mb, 5, none⟩ (.bool (n5 == 1))) mb [.int .i64 seq, sv s1, sv s2, .int .i64 n3, .int .i64 n4, .bool (n5 == 1), .string ⟨#[]⟩, .int .i64 0] 45 := ((HM6.out.set1 3 _).set1 4 _).set1 5 _
  have hx7 := ex_new (ex_new (ex_new HX6.out HM6.out HNW.out 3 (.int .i64 n3)) (HM6.out.set1 3 _) HNW.out 4 (.int .i64 n4)) ((HM6.out.set1 3 _).set1 4 _) HNW.out 5 (.bool (n5 == 1))
  rw [← HMQ.out] at hm7
  clear HM6 HX6 HF6 c3 c4 c5 z3 z4 z5
  generalize (((w6.setCell ⟨mb, 3, none⟩ (.int .i64 n3)).setCell ⟨mb, 4, none⟩ (.int .i64 n4)).setCell ⟨mb, 5, none⟩ (.bool (n5 == 1))) = w70 at *
  obtain ⟨w7, hw7⟩ : ∃ w7, w7 = w70.drew := ⟨_, rfl⟩
  obtain ⟨av, qv, a, b, c⟩ := H.out.dr.other H.out.wf (by decide) (by decide) (by decide) hx7
  obtain ⟨Aq, cq, rfl, _⟩ := own_shape c
  have HAP := Lib.hid (show some mb ≠ (Value.slice Aq x.queue.length cq).ownBlock from fun he => by
    obtain ⟨av0, qv0, a0, b0, c0⟩ := H.out.dr
    have h1 : (subC x av0 qv0)[8]? = some qv0 := rfl
    have hfr : ¬ rb = fb := by have := H.out.lt; have := H.out.hfb; omega
    have h2 := wh_cell (hx7.wh a0 hfr) h1
    have h3 := wh_cell a (i := 8) (v := .slice Aq x.queue.length cq) rfl
    rw [h2] at h3
    injection h3 with h3
    subst h3
    have := own_lt c0 mb he.symm
    have := HNW.out
    omega)
  have hr : Wh w7 rb (subC x av (.slice Aq x.queue.length cq)) 51 := by rw [hw7]; exact a
  have hav : w7.ownsRow B 3 1 av x.acks.length (x.acks.map iv) := by rw [hw7]; exact b
  have ho : w7.ownsRow B 45 8 (.slice Aq x.queue.length cq) x.queue.length (x.queue.map msgC).flatten := by rw [hw7]; exact c
  have hxx : Ex (· = fb) w w7 := by rw [hw7]; exact ⟨hx7.os, hx7.tape, hx7.output, hx7.size, hx7.block⟩
  have hbx : B ≤ w7.heap.size := Nat.le_trans H.out.sz hxx.size
  have hm7' : Wh w7 mb M 45 := by rw [hw7]; exact hm7
  clear a b c hx7
  have hMe := HMQ.out
  subst hMe
  refine wp_region_held_drew (S := fun W => Wh W mb [.int .i64 seq, sv s1, sv s2, .int .i64 n3, .int .i64 n4, .bool (n5 == 1), .string ⟨#[]⟩, .int .i64 0] 45) (by kernel_rfl) (show Wh w70.drew mb [.int .i64 seq, sv s1, sv s2, .int .i64 n3, .int .i64 n4, .bool (n5 == 1), .string ⟨#[]⟩, .int .i64 0] 45 by rw [← hw7]; exact hm7') (fun hHeld => ?_)
  rw [← hw7] at hHeld ⊢
  clear hw7 hm7 hm7'
  refine tkC 0 ?_
  refine tkC 1 ?_
  refine tkC 2 ?_
  refine tkC 3 ?_
  refine tkC 4 ?_
  refine tkA 6 (v := .agg #[.int .i64 seq, sv s1, sv s2, .int .i64 n3, .int .i64 n4, .bool (n5 == 1), .string ⟨#[]⟩, .int .i64 0]) (fun W hSw => exec_load_mid 45 (.tmp 6) rfl mb 0 rfl _ _ hSw.range Tryd.underlying45 rfl HML.out) ?_
  try simp only [Act.put, zA, zB, zC]
  refine rdA (rs := [5, 7]) (arC2 (i := 5) (j := 7) (fun K hK => ?_) fun K hK => ?_)
  · have c8 := wh_cell hr (i := 8) rfl
    go_simp
    try (go_wp2_with fail)
    have hHeld' := hHeld
    refine hK.out _ _ ?_ (fun _ => ?_)
    · exact hHeld'
    clear hK K hHeld
    have hHeld := hHeld'
    clear hHeld'
    try simp only [Act.put, zA, zB, zC]
    refine rdA (rs := [7]) (arC (i := 7) fun K hK => ?_)
    go_simp
    obtain ⟨w8, hw8, hb⟩ : ∃ w8, w8 = w7.alloc (.cells #[.int .i64 seq, sv s1, sv s2, .int .i64 n3, .int .i64 n4, .bool (n5 == 1), .string ⟨#[]⟩, .int .i64 0] 45) ∧ Below w7.heap.size w7 w8 := ⟨_, rfl, (Below.refl _ _).alloc (Nat.le_refl _) _⟩
    have hsr := src_cells (P := Tryd.prog) w7 rfl Tryd.underlying25 45 [.int .i64 seq, sv s1, sv s2, .int .i64 n3, .int .i64 n4, .bool (n5 == 1), .string ⟨#[]⟩, .int .i64 0] HMO.out
    have hsr : Src Tryd.prog 8 25 (.slice (some ⟨w7.heap.size, 0, none⟩) 1 1) 1 [.int .i64 seq, sv s1, sv s2, .int .i64 n3, .int .i64 n4, .bool (n5 == 1), .string ⟨#[]⟩, .int .i64 0] w8 := by rw [hw8]; exact hsr
    rw [← hw8]
    have ho := own_below ho hb
    have hav := own_below hav hb
    have hr := hr.below hb
    have hxx := hxx.trans (Ex.ofBelow (A := (· = fb)) hb)
    have hsz8 : w7.heap.size ≤ w8.heap.size := hb.size
    clear hw8
    try (go_wp2_with fail)
    have hHeld' := hHeld.below hb
    refine hK.out _ _ ?_ (fun _ => ?_)
    · exact hHeld'
    clear hK K hHeld
    have hHeld := hHeld'
    clear hHeld'
    try simp only [Act.put, zA, zB, zC]
    refine rdA (rs := [8]) (arC (i := 8) fun K hK => ?_)
    refine step_own rfl (.tmp 30) (.tmp 32) 25 25 rfl B 45 _ 8 88 Tryd.underlying25 infoMsg rfl rfl ho rfl hsr (Below.refl B w8) (Nat.le_refl _) (by unfold maxLen; omega) (by omega) (by have := HSZ.out; omega) ?_
    intro v9 w9 hown9 hbel9 hgr
    have hr9 := wh_grown hr ho (by decide) hgr
    have hav9 := own_two hav ho (by decide) hgr
    have hm9 := hHeld.kept hgr HAP.out
    obtain ⟨A9, c9, rfl, _⟩ := own_shape hown9
    have hex9 : Ex (AB rb B) w w9 := (ex_fb hxx H.out.hfb).trans ⟨hbel9.os, hbel9.tape, hbel9.output, hbel9.size, fun k hk hA => hbel9.block k (by unfold AB at hA; omega)⟩
    have c98 := wh_cell hr9 (i := 8) rfl
    have z98 := hr9.frozen 8
    try (go_wp2_with fail)
    have hHeld' := hm9
    refine hK.out _ _ ?_ (fun _ => ?_)
    · exact hHeld'
    clear hK K hHeld
    have hHeld := hHeld'
    clear hHeld'
    try simp only [Act.put, zA, zB, zC]
    refine tkC 9 ?_
    refine tkC 10 ?_
    refine tkC 11 ?_
    refine rdA (rs := [12]) (arC (i := 12) fun K hK => ?_)
    go_simp
    try (go_wp2_with fail)
    have hHeld' := hm9.set1Other HNR.out 8 (.slice A9 (x.queue.length + 1) c9)
    refine hK.out _ _ ?_ (fun _ => ?_)
    · exact hHeld'
    clear hK K hHeld
    have hHeld := hHeld'
    clear hHeld'
    try simp only [Act.put, zA, zB, zC]
    refine wpAnyH_done (by kernel_rfl) ?_ _
    have HOWN := Lib.hid hown9
    have HR9 := Lib.hid hr9
    have HAV9 := Lib.hid hav9
    have HEX9 := Lib.hid hex9
    clear hown9 hr9 hav9 hex9 hgr hbel9 c98 z98 ho hav hr hxx hsr c8
    go_wp2
    go_end0
    have hg := (ex_set HR9.out 8 (.slice A9 (x.queue.length + 1) c9)).grown
    refine ⟨rfl, ⟨av, .slice A9 (x.queue.length + 1) c9, HR9.out.set1 8 _, own_wh HAV9.out HR9.out (by decide) hg, ?_⟩, HEX9.out.trans ((ex_set HR9.out 8 _).mono fun k _ hk => .inl hk)⟩
    have hq := own_wh HOWN.out HR9.out (by decide) hg
    rw [HME.out] at hq
    unfold OM
    rw [List.length_append, List.map_append, List.flatten_append]
    simpa using hq
  · go_simp
    obtain ⟨w8, hw8, hb⟩ : ∃ w8, w8 = w7.alloc (.cells #[.int .i64 seq, sv s1, sv s2, .int .i64 n3, .int .i64 n4, .bool (n5 == 1), .string ⟨#[]⟩, .int .i64 0] 45) ∧ Below w7.heap.size w7 w8 := ⟨_, rfl, (Below.refl _ _).alloc (Nat.le_refl _) _⟩
    have hsr := src_cells (P := Tryd.prog) w7 rfl Tryd.underlying25 45 [.int .i64 seq, sv s1, sv s2, .int .i64 n3, .int .i64 n4, .bool (n5 == 1), .string ⟨#[]⟩, .int .i64 0] HMO.out
    have hsr : Src Tryd.prog 8 25 (.slice (some ⟨w7.heap.size, 0, none⟩) 1 1) 1 [.int .i64 seq, sv s1, sv s2, .int .i64 n3, .int .i64 n4, .bool (n5 == 1), .string ⟨#[]⟩, .int .i64 0] w8 := by rw [hw8]; exact hsr
    rw [← hw8]
    have ho := own_below ho hb
    have hav := own_below hav hb
    have hr := hr.below hb
    have hxx := hxx.trans (Ex.ofBelow (A := (· = fb)) hb)
    have hsz8 : w7.heap.size ≤ w8.heap.size := hb.size
    clear hw8
    try (go_wp2_with fail)
    have hHeld' := hHeld.below hb
    refine hK.out _ _ ?_ (fun _ => ?_)
    · exact hHeld'
    clear hK K hHeld
    have hHeld := hHeld'
    clear hHeld'
    try simp only [Act.put, zA, zB, zC]
    refine rdA (rs := [5]) (arC (i := 5) fun K hK => ?_)
    have c8 := wh_cell hr (i := 8) rfl
    go_simp
    try (go_wp2_with fail)
    have hHeld' := hHeld
    refine hK.out _ _ ?_ (fun _ => ?_)
    · exact hHeld'
    clear hK K hHeld
    have hHeld := hHeld'
    clear hHeld'
    try simp only [Act.put, zA, zB, zC]
    refine rdA (rs := [8]) (arC (i := 8) fun K hK => ?_)
    refine step_own rfl (.tmp 30) (.tmp 32) 25 25 rfl B 45 _ 8 88 Tryd.underlying25 infoMsg rfl rfl ho rfl hsr (Below.refl B w8) (Nat.le_refl _) (by unfold maxLen; omega) (by omega) (by have := HSZ.out; omega) ?_
    intro v9 w9 hown9 hbel9 hgr
    have hr9 := wh_grown hr ho (by decide) hgr
    have hav9 := own_two hav ho (by decide) hgr
    have hm9 := hHeld.kept hgr HAP.out
    obtain ⟨A9, c9, rfl, _⟩ := own_shape hown9
    have hex9 : Ex (AB rb B) w w9 := (ex_fb hxx H.out.hfb).trans ⟨hbel9.os, hbel9.tape, hbel9.output, hbel9.size, fun k hk hA => hbel9.block k (by unfold AB at hA; omega)⟩
    have c98 := wh_cell hr9 (i := 8) rfl
    have z98 := hr9.frozen 8
    try (go_wp2_with fail)
    have hHeld' := hm9
    refine hK.out _ _ ?_ (fun _ => ?_)
    · exact hHeld'
    clear hK K hHeld
    have hHeld := hHeld'
    clear hHeld'
    try simp only [Act.put, zA, zB, zC]
    refine tkC 9 ?_
    refine tkC 10 ?_
    refine tkC 11 ?_
    refine rdA (rs := [12]) (arC (i := 12) fun K hK => ?_)
    go_simp
    try (go_wp2_with fail)
    have hHeld' := hm9.set1Other HNR.out 8 (.slice A9 (x.queue.length + 1) c9)
    refine hK.out _ _ ?_ (fun _ => ?_)
    · exact hHeld'
    clear hK K hHeld
    have hHeld := hHeld'
    clear hHeld'
    try simp only [Act.put, zA, zB, zC]
    refine wpAnyH_done (by kernel_rfl) ?_ _
    have HOWN := Lib.hid hown9
    have HR9 := Lib.hid hr9
    have HAV9 := Lib.hid hav9
    have HEX9 := Lib.hid hex9
    clear hown9 hr9 hav9 hex9 hgr hbel9 c98 z98 ho hav hr hxx hsr c8
    go_wp2
    go_end0
    have hg := (ex_set HR9.out 8 (.slice A9 (x.queue.length + 1) c9)).grown
    refine ⟨rfl, ⟨av, .slice A9 (x.queue.length + 1) c9, HR9.out.set1 8 _, own_wh HAV9.out HR9.out (by decide) hg, ?_⟩, HEX9.out.trans ((ex_set HR9.out 8 _).mono fun k _ hk => .inl hk)⟩
    have hq := own_wh HOWN.out HR9.out (by decide) hg
    rw [HME.out] at hq
    unfold OM
    rw [List.length_append, List.map_append, List.flatten_append]
    simpa using hq
end Go.Proofs.YtmdkonfmbbbepaaDoor
set_option linter.unusedVariables false
set_option linter.unusedSimpArgs false
namespace Go.Proofs.YtmdkonfmbbbepaaDoor
open Go.RowKit Go.Rst Go.Tp Go.Ts Go.Tk Go.Crc Go.On Go.Pg
set_option maxRecDepth 100000 in
set_option maxHeartbeats 2000000 in
theorem why_any (k : Int) (w : World) : Calls Tryd.prog 52 #[.int .i64 k] w fun e w' => e = .returned (sv (whyN k)) ∧ w = w' := by
  by_cases h1 : k = 1
  · subst h1
    go_enter Tryd.func52, Tryd.ntmps52
    go_wp2
    go_ret
    exact ⟨rfl, rfl⟩
  · by_cases h2 : k = 2
    · subst h2
      go_enter Tryd.func52, Tryd.ntmps52
      go_wp2
      go_ret
      exact ⟨rfl, rfl⟩
    · have e : whyN k = [] := by unfold whyN; rw [if_neg h1, if_neg h2]
      rw [e]
      have q1 : (k == 1) = false := by simpa using h1
      have q2 : (k == 2) = false := by simpa using h2
      clear h1 h2 e
      go_enter Tryd.func52, Tryd.ntmps52
      go_wp2
      go_ret
      exact ⟨rfl, rfl⟩
theorem flat_set {sz : Nat} : ∀ (css : List (List Value)) (i j : Nat) (v : Value), (∀ cs ∈ css, cs.length = sz) → (hi : i < css.length) → j < sz → css.flatten.set (i * sz + j) v = (css.set i (css[i].set j v)).flatten
  | c :: css, 0, j, v, h, hi, hj => by
    have hc := h c List.mem_cons_self
    simp only [List.flatten_cons, List.set_cons_zero, List.getElem_cons_zero, Nat.zero_mul, Nat.zero_add]
    rw [List.set_append_left _ _ (by omega)]
  | c :: css, i + 1, j, v, h, hi, hj => by
    have hc := h c List.mem_cons_self
    simp only [List.flatten_cons, List.set_cons_succ, List.getElem_cons_succ]
    rw [List.set_append_right _ _ (by rw [hc, Nat.add_mul]; omega), hc, show (i + 1) * sz + j - sz = i * sz + j by rw [Nat.add_mul]; omega]
    rw [flat_set css i j v (fun x hx => h x (List.mem_cons_of_mem _ hx)) (by simpa using hi) hj]
theorem om_set {B : Nat} {w : World} {n c g : Nat} {q : List Msg} (h : w.ownsRow B 45 8 (.slice (some ⟨g, 0, none⟩) n c) n (q.map msgC).flatten) {i : Nat} (hi : i < q.length) (p : Int) (s : List UInt8) :
    ((w.setCell ⟨g, i * 8 + 7, none⟩ (.int .i64 p)).setCell ⟨g, i * 8 + 6, none⟩ (sv s)).ownsRow B 45 8 (.slice (some ⟨g, 0, none⟩) n c) n ((q.set i { q[i] with prio := p, why := s }).map msgC).flatten := by
  have h1 := own_set h (i * 8 + 7) (.int .i64 p)
  have h2 := own_set h1 (i * 8 + 6) (sv s)
  have hz : ∀ cs ∈ q.map msgC, cs.length = 8 := by intro cs hc; obtain ⟨m, _, rfl⟩ := List.mem_map.1 hc; rfl
  have hil : i < (q.map msgC).length := by simpa using hi
  rw [flat_set (q.map msgC) i 7 _ hz hil (by omega)] at h2
  have hz2 : ∀ cs ∈ (q.map msgC).set i ((q.map msgC)[i].set 7 (.int .i64 p)), cs.length = 8 := by
    intro cs hc
    rcases List.mem_or_eq_of_mem_set hc with hc | rfl
    · exact hz _ hc
    · rw [List.length_set]; exact hz _ (List.getElem_mem hil)
  rw [flat_set _ i 6 _ hz2 (by simpa using hi) (by omega)] at h2
  have e : ((q.map msgC).set i ((q.map msgC)[i].set 7 (.int .i64 p))).set i ((((q.map msgC).set i ((q.map msgC)[i].set 7 (.int .i64 p)))[i]'(by simpa using hi)).set 6 (sv s)) = (q.set i { q[i] with prio := p, why := s }).map msgC := by
    rw [List.set_set, List.map_set]
    congr 1
    simp only [List.getElem_set_self, List.getElem_map]
    rfl
  rw [e] at h2
  exact h2
set_option maxRecDepth 100000 in
set_option maxHeartbeats 8000000 in
theorem rd_extra (B rb fb : Nat) (w : World) (x : Ts.Sub) (bv : Value) (l : List UInt8) (seq : Int) (h : RdIn B rb fb w x bv l) (hl : x.queue.length ≤ 1000000) :
    Calls Tryd.prog 42 #[.pointer (some ⟨rb, 0, none⟩), .int .i64 seq, .pointer (some ⟨fb, 0, none⟩)] w (GivesRd B rb w { x with queue := extD x.queue seq l }) := by
  have H := Lib.hid h
  obtain ⟨av, qv, a, b, c⟩ := h.dr
  clear h
  have hqv : ∃ A k, qv = .slice A x.queue.length k := by obtain ⟨A, k, h, _⟩ := own_shape c; exact ⟨A, k, h⟩
  obtain ⟨n1, p1, h1⟩ : ∃ s p, nmA l 0 = (s, p) := ⟨_, _, rfl⟩
  obtain ⟨n2, p2, h2⟩ : ∃ s p, nmA l p1 = (s, p) := ⟨_, _, rfl⟩
  obtain ⟨xq, hxq⟩ : ∃ xq, xq = extD x.queue seq l := ⟨_, rfl⟩
  rw [← hxq]
  obtain ⟨i, hi⟩ : ∃ i, i = ixD x.queue seq := ⟨_, rfl⟩
  obtain ⟨hb, hhb⟩ : ∃ hb, hb = hitB x.queue seq i := ⟨_, rfl⟩
  have HSE := Lib.hid (by have := search_any qv x.queue seq w (OM.rl c) hl; rw [← hi, ← hhb] at this; exact this : Calls Tryd.prog 55 #[qv, .int .i64 seq, .func (.func 56) #[] #[]] w fun e w' => e = .returned (.tuple #[.int .i64 (i : Nat), .bool hb]) ∧ Below w.heap.size w w')
  have HX0 : hb = false → xq = x.queue := by
    intro hf
    rw [hxq]
    unfold extD
    rw [← hi]
    by_cases hlt : i < x.queue.length
    · rw [hhb, hit_in hlt] at hf
      rw [List.getElem?_eq_getElem hlt]
      show (if x.queue[i].seq = seq then _ else _) = _
      rw [if_neg (by simpa using hf)]
    · rw [List.getElem?_eq_none (by omega)]
  have HX1 : hb = true → ∃ hlt : i < x.queue.length, xq = x.queue.set i { x.queue[i] with prio := n1, why := whyN n2 } := by
    intro ht
    by_cases hlt : i < x.queue.length
    · refine ⟨hlt, ?_⟩
      rw [hhb, hit_in hlt] at ht
      rw [hxq]
      unfold extD
      rw [← hi, List.getElem?_eq_getElem hlt]
      show (if x.queue[i].seq = seq then _ else _) = _
      rw [if_pos (by simpa using ht), h1]
      show x.queue.set i { x.queue[i] with prio := n1, why := whyN (nmA l p1).1 } = _
      rw [h2]
    · rw [hhb, hit_out (by omega)] at ht
      cases ht
  have c8 := wh_cell a (i := 8) rfl
  have HA := Lib.hid a
  have HBB := Lib.hid b
  have HC := Lib.hid c
  have HE0 := Lib.hid HX0
  have HE1 := Lib.hid HX1
  have HN1 := Lib.hid (fun W (hx : Ex (AB rb B) w W) (hf : Wh W fb [bv, .int .i64 0] 58) => by have := fnum_any fb bv l 0 W (H.out.rd W hx) hf; rw [h1] at this; exact this : ∀ W (hx : Ex (AB rb B) w W) (hf : Wh W fb [bv, .int .i64 0] 58), Calls Tryd.prog 54 #[.pointer (some ⟨fb, 0, none⟩)] W fun e w' => e = .returned (.int .i64 n1) ∧ Ex (· = fb) W w' ∧ Wh w' fb [bv, .int .i64 p1] 58)
  have HN2 := Lib.hid (fun W (hx : Ex (AB rb B) w W) (hf : Wh W fb [bv, .int .i64 p1] 58) => by have := fnum_any fb bv l p1 W (H.out.rd W hx) hf; rw [h2] at this; exact this : ∀ W (hx : Ex (AB rb B) w W) (hf : Wh W fb [bv, .int .i64 p1] 58), Calls Tryd.prog 54 #[.pointer (some ⟨fb, 0, none⟩)] W fun e w' => e = .returned (.int .i64 n2) ∧ Ex (· = fb) W w' ∧ Wh w' fb [bv, .int .i64 p2] 58)
  have HNE := Lib.hid (show ¬ rb = fb by have := H.out.lt; have := H.out.hfb; omega)
  obtain ⟨Aq, cq, rfl⟩ := hqv
  clear a b c hxq hi hhb HX0 HX1 h1 h2
  go_enter Tryd.func42, Tryd.ntmps42
  go_wp2_with fail
  refine HSE.out.mono ?_
  rintro e w1 ⟨rfl, hb1⟩
  have HX1 := Lib.hid (Ex.ofBelow (A := (· = fb)) hb1)
  have HA1 := Lib.hid (HA.out.below hb1)
  have HF1 := Lib.hid (H.out.wf.below hb1)
  clear hb1 c8
  cases hb with
  | false =>
    have HQ := Lib.hid (HE0.out rfl)
    go_wp2
    go_end0
    rw [HQ.out]
    exact ⟨rfl, ⟨av, _, HX1.out.wh HA.out HNE.out, own_wh HBB.out H.out.wf (by decide) HX1.out.grown, own_wh HC.out H.out.wf (by decide) HX1.out.grown⟩, ex_fb HX1.out H.out.hfb⟩
  | true =>
    obtain ⟨hlt, hq⟩ := HE1.out rfl
    have HQ := Lib.hid hq
    have hown : ∀ W, Ex (· = fb) w W → W.ownsRow B 45 8 (.slice Aq x.queue.length cq) x.queue.length (x.queue.map msgC).flatten := fun W hx => own_wh HC.out H.out.wf (by decide) hx.grown
    obtain ⟨g, k, hqe, hBg, hgl⟩ : ∃ g k, Value.slice Aq x.queue.length cq = .slice (some ⟨g, 0, none⟩) x.queue.length k ∧ B ≤ g ∧ g < w.heap.size := by
      rcases (hown w (Ex.refl _ _)).2 with ⟨_, h0⟩ | ⟨g, cap, cur, he, hb, hg, _⟩
      · omega
      · exact ⟨g, cap, he, hb, (Array.getElem?_eq_some_iff.1 hg).1⟩
    injection hqe with hqa _ hqc
    subst hqa
    subst hqc
    have HOW := Lib.hid hown
    have HBG := Lib.hid hBg
    have hgr : ∀ W, Ex (· = fb) w W → (∃ o, W.cell? ⟨g, i * 8 + 7, none⟩ = some o) ∧ (∃ o, W.cell? ⟨g, i * 8 + 6, none⟩ = some o) ∧ ∀ j, W.frozen? ⟨g, j, none⟩ = false := by
      intro W hx
      have ho := hown W hx
      have hcell : ∀ j, j < x.queue.length * 8 → ∃ o, W.cell? ⟨g, j, none⟩ = some o := fun j hj => ⟨_, ho.cellAt j hj |>.trans (List.getElem?_eq_getElem (by rw [ho.1]; exact hj))⟩
      refine ⟨hcell _ (by omega), hcell _ (by omega), fun j => ?_⟩
      obtain ⟨cur, hc⟩ := row_kind ho g rfl
      simp [World.frozen?, hc]
    have HGR := Lib.hid hgr
    have hi8 : (i : Int) < (x.queue.length : Int) := by omega
    have hi0 : (0 : Int) ≤ (i : Int) := by omega
    clear hown hq hgr hBg
    go_wp2_with fail
    refine wp_region_held_drew (S := fun W => Wh W rb (subC x av (.slice (some ⟨g, 0, none⟩) x.queue.length cq)) 51) (by kernel_rfl) HA1.out (fun hHeld => ?_)
    have hxd : Ex (· = fb) w w1.drew := ⟨HX1.out.os, HX1.out.tape, HX1.out.output, HX1.out.size, HX1.out.block⟩
    have hfd : Wh w1.drew fb [bv, .int .i64 0] 58 := HF1.out
    have HRG := Lib.hid (show rb ≠ g by have := H.out.lt; have := HBG.out; omega)
    refine tkC 0 ?_
    refine tkC 1 ?_
    refine tkC 2 ?_
    refine tkC 3 ?_
    refine tkA 4 (v := ?_) ?_ ?_
    rotate_left
    · intro W hSw; have hq := wh_cell hSw (i := 8) rfl; go_simp; try (with_reducible rfl)
    try simp only [Act.put, zA, zB, zC]
    refine tkC 5 ?_
    refine tkC 6 ?_
    refine tkC 7 ?_
    refine tkC 8 ?_
    refine tkC 9 ?_
    refine tkA 10 (v := ?_) ?_ ?_
    rotate_left
    · intro W hSw; have hq := wh_cell hSw (i := 8) rfl; go_simp; try (with_reducible rfl)
    try simp only [Act.put, zA, zB, zC]
    refine tkC 11 ?_
    refine tkC 12 ?_
    refine tkC 14 ?_
    refine rdA (rs := [13]) (arC (i := 13) fun K hK => ?_)
    go_simp
    refine (HN1.out _ (ex_fb hxd H.out.hfb) hfd).mono ?_
    rintro e w3 ⟨rfl, hx3, hf3⟩
    have hxd := hxd.trans hx3
    try (go_wp2_with fail)
    have hHeld' := hx3.wh hHeld HNE.out
    refine hK.out _ _ ?_ (fun _ => ?_)
    · exact hHeld'
    clear hK K hHeld
    have hHeld := hHeld'
    clear hHeld'
    try simp only [Act.put, zA, zB, zC]
    refine rdA (rs := [15]) (arC (i := 15) fun K hK => ?_)
    go_simp
    refine (HN2.out _ (ex_fb hxd H.out.hfb) hf3).mono ?_
    rintro e w4 ⟨rfl, hx4, hf4⟩
    have hxd := hxd.trans hx4
    try (go_wp2_with fail)
    have hHeld' := hx4.wh hHeld HNE.out
    refine hK.out _ _ ?_ (fun _ => ?_)
    · exact hHeld'
    clear hK K hHeld
    have hHeld := hHeld'
    clear hHeld'
    try simp only [Act.put, zA, zB, zC]
    refine rdA (rs := [16]) (arC (i := 16) fun K hK => ?_)
    go_simp
    refine (why_any n2 _).mono ?_
    rintro e w5 ⟨rfl, hw5⟩
    subst w5
    have HXD := Lib.hid hxd
    obtain ⟨⟨o7, c7⟩, ⟨o6, c6⟩, hz⟩ := HGR.out _ hxd
    have z7 := hz (i * 8 + 7)
    have z6 := hz (i * 8 + 6)
    clear hz
    try (go_wp2_with fail)
    have hHeld' := hHeld
    refine hK.out _ _ ?_ (fun _ => ?_)
    · exact hHeld'
    clear hK K hHeld
    have hHeld := hHeld'
    clear hHeld'
    try simp only [Act.put, zA, zB, zC]
    refine tkC 17 ?_
    refine tkC 18 ?_
    refine rdA (rs := [19]) (arC (i := 19) fun K hK => ?_)
    go_simp
    try (go_wp2_with fail)
    have hHeld' := hHeld.set1Other HRG.out (i * 8 + 7) (.int .i64 n1)
    refine hK.out _ _ ?_ (fun _ => ?_)
    · exact hHeld'
    clear hK K hHeld
    have hHeld := hHeld'
    clear hHeld'
    try simp only [Act.put, zA, zB, zC]
    refine tkC 20 ?_
    refine tkC 21 ?_
    refine rdA (rs := [22]) (arC (i := 22) fun K hK => ?_)
    go_simp
    try (go_wp2_with fail)
    have hHeld' := hHeld.set1Other HRG.out (i * 8 + 6) (sv (whyN n2))
    refine hK.out _ _ ?_ (fun _ => ?_)
    · exact hHeld'
    clear hK K hHeld
    have hHeld := hHeld'
    clear hHeld'
    try simp only [Act.put, zA, zB, zC]
    refine wpAnyH_done (by kernel_rfl) ?_ _
    go_wp2
    go_end0
    rw [HQ.out]
    have hoo := om_set (HOW.out _ HXD.out) hlt n1 (whyN n2)
    have hg7 := grown_cell w4 g (i * 8 + 7) (.int .i64 n1)
    have hg6 := grown_cell (w4.setCell ⟨g, i * 8 + 7, none⟩ (.int .i64 n1)) g (i * 8 + 6) (sv (whyN n2))
    refine ⟨rfl, ⟨av, _, hHeld, ?_, ?_⟩, ((ex_fb HXD.out H.out.hfb).trans (Ex.ofGrown hg7 (.inr HBG.out))).trans (Ex.ofGrown hg6 (.inr HBG.out))⟩
    · have hai := own_wh HBB.out H.out.wf (by decide) HXD.out.grown
      have hne : ∀ k, av.ownBlock = some k → k ≠ g := fun k hk he => by
        subst he
        obtain ⟨cur, hc⟩ := row_kind hai k hk
        obtain ⟨cur2, hc2⟩ := row_kind (HOW.out _ HXD.out) k rfl
        rw [hc] at hc2
        injection hc2 with hc2
        injection hc2 with _ hc2 _
        exact absurd hc2 (by decide)
      exact own_apart (own_apart hai hg7 hne) hg6 hne
    · unfold OM
      rw [List.length_set]
      exact hoo
end Go.Proofs.YtmdkonfmbbbepaaDoor
