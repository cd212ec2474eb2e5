/-
  The contract of the program's Diff: the changes from some rows to others.
-/
import Derived.Test.YtomkbgghljcbfaaGTail
import Derived.Test.YtomkbgghljcbfaaGHalve
import Derived.Test.YtomkbgghljcbfaaCEqual
import Derived.OrdersHeld
namespace Go.Proofs.Ytomkbgghljcbfaa
open Go.RowKit Go.Rst Go.Pg Go.Crc Go.Shelf
attribute [local go_sem] Oper.semAt_some

theorem rr_one {w : World} {v : Value} {rs : List Rw} (h : RR w v rs) : v.oneCell' = true := by
  obtain ⟨A, c, rfl, _⟩ := h
  rfl

theorem leaveD {W : World} {tmps : Array Value} {v : Value} (h : tmps.getD 4 undef = v) : (results Try.f21 tmps).run Try.prog W = .ok v W := by
  subst h
  exact results_tmp rfl _ _ _

set_option maxRecDepth 100000 in
set_option maxHeartbeats 8000000 in
theorem diff_any (fv tv : Value) (fs ts : List Rw) (w : World) (hf : RR w fv fs) (ht : RR w tv ts) (hl1 : fs.length ≤ 1000000) (hl2 : ts.length ≤ 1000000) (hvl : ∀ r ∈ ts, r.2.length ≤ 140737488355328) :
    Calls Try.prog 21 #[fv, tv] w fun e w' => ∃ v', e = .returned v' ∧ OC 5 51 w' w.heap.size v' (diffL fs ts) ∧ Below w.heap.size w w' := by
  have HF := Lib.hid hf
  have HT := Lib.hid ht
  have HVL := Lib.hid hvl
  obtain ⟨A1, c1, rfl, hc1, hc163⟩ := rr_shape hf
  obtain ⟨A2, c2, rfl, hc2, hc263⟩ := rr_shape ht
  clear hf ht hvl
  refine (callsIn_wide (n := 3)).1 ?_
  refine callsIn_of_wp_marks Try.func21 rfl trivial ?_ rfl
  simp only [Try.ntmps21, List.size_toArray, List.length_cons, List.length_nil, Nat.reduceAdd, Nat.reduceSub, Array.replicate_succ, Array.replicate_zero, List.push_toArray, List.append_toArray, List.nil_append, List.cons_append]
  gi_wp2_with (first | (gi_at_call 39; refine (pairs_in _ _ _ _ rfl rfl).mono ?_; rintro e w2 ⟨rfl, rfl⟩) | (refine ⟨(show Fence.wide.fn _ from trivial), ?_⟩))
  -- the walk
  have hb1 : Below w.heap.size w (((w.alloc (.cells #[.slice none 0 0] 22)).alloc (.cells #[.slice A1 fs.length c1] 34)).alloc (.cells #[.slice A2 ts.length c2] 34)) := (((Below.refl _ w).alloc (Nat.le_refl _) _).alloc (by simp) _).alloc (by simp; omega) _
  have hcs0 : CS w (.slice A1 fs.length c1) (.slice A2 ts.length c2) [] (.slice none 0 0) (((w.alloc (.cells #[.slice none 0 0] 22)).alloc (.cells #[.slice A1 fs.length c1] 34)).alloc (.cells #[.slice A2 ts.length c2] 34)) := by
    have h1 := Boxed.new (w.alloc (.cells #[.slice none 0 0] 22)) 34 (.slice A1 fs.length c1)
    have h2 := Boxed.new ((w.alloc (.cells #[.slice none 0 0] 22)).alloc (.cells #[.slice A1 fs.length c1] 34)) 34 (.slice A2 ts.length c2)
    rw [World.size_alloc] at h1
    rw [World.size_alloc, World.size_alloc] at h2
    exact ⟨((Boxed.new w _ _).alloc _).alloc _, OC.nil_ _ _ _ _, hb1, h1.alloc _, h2⟩
  have hsz0 : (((w.alloc (.cells #[.slice none 0 0] 22)).alloc (.cells #[.slice A1 fs.length c1] 34)).alloc (.cells #[.slice A2 ts.length c2] 34)).heap.size = w.heap.size + 3 := by simp
  obtain ⟨W0, hW0⟩ : ∃ W0, W0 = (((w.alloc (.cells #[.slice none 0 0] 22)).alloc (.cells #[.slice A1 fs.length c1] 34)).alloc (.cells #[.slice A2 ts.length c2] 34)) := ⟨_, rfl⟩
  rw [← hW0] at hcs0 hsz0 ⊢
  clear hb1 hW0
  refine wpIn_rangeFunc_ownG rfl (by decide) (gf := 59) (lb := #[.pointer (some ⟨w.heap.size + 1, 0, none⟩), .pointer (some ⟨w.heap.size + 1 + 1, 0, none⟩)]) rfl trivial (enters_of Try.func59 (by kernel_rfl) rfl)
    (pairs_stops 2 A1 A2 c1 c2 fs ts w W0 HF.out HT.out hcs0.dk (by omega) (by omega) (by omega) HVL.out) (fun h k x => k (h x)) (fun X l o o' hl hlo hc _ hx => ?kb) (Below.refl _ _) (fun _ => rfl)
    (fun pre X => ∃ cv, CS w (.slice A1 fs.length c1) (.slice A2 ts.length c2) ((pre.map (·.1.2)).flatMap emitL) cv X ∧ ((pre.map (·.1.2)).flatMap emitL).length ≤ pre.length)
    (fun _ _ _ => False)
    ?oi (fun _ _ _ _ _ h _ _ => h) ⟨_, by simpa using hcs0, by simp⟩
    (fun x => { tmps := #[.slice A1 fs.length c1, .slice A2 ts.length c2, undef, undef, .slice none 0 0, .pointer (some ⟨w.heap.size, 0, none⟩), x.1.1.1, x.1.1.2, .slice A1 fs.length c1, .slice A2 ts.length c2, .func (.func 59) #[] #[.pointer (some ⟨w.heap.size + 1, 0, none⟩), .pointer (some ⟨w.heap.size + 1 + 1, 0, none⟩)], x.1.1.1, x.1.1.2, undef, undef, undef, undef, undef, undef, undef, undef, undef, undef, undef, undef, undef, undef, undef, undef, undef, undef, undef, undef, undef, undef, undef, undef, undef, undef, undef, undef, undef, undef, undef, undef, undef, undef, undef, undef, undef, undef, undef, undef], defers := [] }) ?assign ?body ?done ?stop
  case kb => exact hx.grown (grownBy_putObj' X l o') (fun r e => by cases e; exact ⟨by omega, o, hlo, hc⟩)
  case oi =>
    rintro pre X Y row ⟨cv, h, h2⟩ hg hr
    exact ⟨cv, h.grown hg (fun r e => ⟨by have := (hr r e).1; omega, (hr r e).2⟩), h2⟩
  case assign =>
    intro l x X K hK
    gi_wp2
    exact hK
  case stop =>
    intro D c pre X hD hS h
    exact h.elim
  case done =>
    rintro D xs X hD hS ⟨cv, hcs, _⟩ hK
    rw [hS, merge_diff] at hcs
    have hmk3 : Marks w.heap.size X.heap.size X [{ target := .collected D, args := #[] }] := ⟨⟨D, rfl, by omega, (Array.getElem?_eq_some_iff.1 hK).1, hK, fun d hd => by cases hd⟩, trivial⟩
    obtain ⟨us, hus, ho, _⟩ := hcs.oc
    obtain ⟨Ac, cc, rfl, _⟩ := own_shape ho
    have hcb := hcs.bx.cell
    have HCS := Lib.hid hcs
    have HMK3 := Lib.hid hmk3
    clear hcs hmk3 hus ho hS
    gi_wp2
    exact leaves_marks HMK3.out (fun W' hkx hb => ⟨_, leaveD rfl, ⟨_, rfl, hkx.oc_ (fun _ => trivial) (fun _ _ => trivial) HCS.out.oc, HCS.out.dk.1.trans hb⟩⟩)
  case body =>
    rintro l pre ⟨⟨⟨p1, p2⟩, ⟨o1, o2⟩⟩, hp1, hp2, hor, hvl⟩ X ⟨cv, hcs, hcl⟩ hlt
    dsimp only at hp1 hp2 hor hvl hlt ⊢
    obtain ⟨cs0, hcs0e⟩ : ∃ cs0, cs0 = (pre.map (·.1.2)).flatMap emitL := ⟨_, rfl⟩
    rw [← hcs0e] at hcs hcl
    have HLN := Lib.hid (show cs0.length ≤ 3000000 by omega)
    have HE := Lib.hid hcs0e
    have HST := Lib.hid hcs
    have HKO := Lib.hid (KeepsOthers.refl X)
    have hA := hcs.bx.cell
    clear hcs hcs0 hcs0e
    cases o2 with
    | none =>
      cases o1 with
      | none => simp at hor
      | some rx =>
        obtain ⟨b1, of1, u1, rfl, hbw1, hx1, hy1, hr1⟩ := hp1
        have hp2 : p2 = .pointer none := hp2
        subst hp2
        gi_wp2
        have HSTD := Lib.hid (HST.out.below (Below.refl _ _).drew)
        have hA := HSTD.out.bx.cell
        have HKOD := Lib.hid (HKO.out.trans (KeepsOthers.drew _))
        refine wpIn_region_round (S := DK w (.slice A1 fs.length c1) (.slice A2 ts.length c2)) (by kernel_rfl) (by kernel_rfl) (fun a w h => h) HSTD.out.dk (fun hHeld => ?_)
        generalize X.drew = wd at *
        refine wpAnyH_take (i := 1) (oi := { dst := some 17, op := Op.move (Operand.tmp 6), type := 67, pos := "rows.go:43", after := #[], guard := none }) (v := ?_) rfl (by kernel_rfl) (by kernel_rfl) (by kernel_rfl) (fun _ _ _ h => h.elim) (Or.inl ⟨by rfl, ?_⟩) (by assumption) ?_
        rotate_left
        · intro X hSw; go_simp; try (with_reducible rfl)
        try simp only [Act.put, List.setIfInBounds_toArray, List.set_cons_zero, List.set_cons_succ]
        refine wpAnyH_take (i := 2) (oi := { dst := some 18, op := Op.nilCheck (Operand.tmp 17), type := 0, pos := "rows.go:43", after := #[{ on := 1, ground := Ground.data }], guard := none }) (v := ?_) rfl (by kernel_rfl) (by kernel_rfl) (by kernel_rfl) (fun _ _ _ h => h.elim) (Or.inl ⟨by rfl, ?_⟩) (by assumption) ?_
        rotate_left
        · intro X hSw; go_simp; try (with_reducible rfl)
        try simp only [Act.put, List.setIfInBounds_toArray, List.set_cons_zero, List.set_cons_succ]
        refine wpAnyH_take (i := 3) (oi := { dst := some 19, op := Op.fieldAddr 53 (Operand.tmp 18) 0, type := 0, pos := "rows.go:43", after := #[{ on := 2, ground := Ground.data }], guard := none }) (v := ?_) rfl (by kernel_rfl) (by kernel_rfl) (by kernel_rfl) (fun _ _ _ h => h.elim) (Or.inl ⟨by rfl, ?_⟩) (by assumption) ?_
        rotate_left
        · intro X hSw; go_simp; try (with_reducible rfl)
        try simp only [Act.put, List.setIfInBounds_toArray, List.set_cons_zero, List.set_cons_succ]
        refine wpAnyH_take (i := 4) (oi := { dst := some 20, op := Op.load 9 (Operand.tmp 19), type := 9, pos := "rows.go:43", after := #[{ on := 3, ground := Ground.data }], guard := none }) (v := ?_) rfl (by kernel_rfl) (by kernel_rfl) (by kernel_rfl) (fun _ _ _ h => h.elim) (Or.inl ⟨by rfl, ?_⟩) (by assumption) ?_
        rotate_left
        · intro X hSw; have hq := (hSw.1.cell (p := ⟨b1, of1, none⟩) hbw1).trans hx1; go_simp; try (with_reducible rfl)
        try simp only [Act.put, List.setIfInBounds_toArray, List.set_cons_zero, List.set_cons_succ]
        refine wpAnyH_take (i := 5) (oi := { dst := some 21, op := Op.build 51 #[(0, Operand.tmp 20), (2, Operand.const (Value.bool true))], type := 51, pos := "rows.go:43", after := #[{ on := 4, ground := Ground.data }], guard := none }) (v := ?_) rfl (by kernel_rfl) (by kernel_rfl) (by kernel_rfl) (fun _ _ _ h => h.elim) (Or.inl ⟨by rfl, ?_⟩) (by assumption) ?_
        rotate_left
        · intro X hSw; go_simp; try (with_reducible rfl)
        try simp only [Act.put, List.setIfInBounds_toArray, List.set_cons_zero, List.set_cons_succ]
        refine wpAnyH_ready (rs := [0, 6]) (by kernel_rfl) (by simp) ?_
        refine AllReadyH.cons (o := { dst := some 16, op := Op.load 22 (Operand.tmp 5), type := 22, pos := "rows.go:43", after := #[], guard := none }) rfl (fun K hK => ?_) (AllReadyH.cons (o := { dst := some 22, op := Op.buildSlice 22 1 #[(0, Operand.tmp 21)], type := 22, pos := "rows.go:43", after := #[{ on := 5, ground := Ground.data }], guard := none }) rfl (fun K hK => ?_) AllReadyH.nil)
        · go_simp
          try (go_wp2_with fail)
          refine hK.out _ _ ?_ (fun _ => ?_)
          · exact hHeld
          clear hK K
          try simp only [Act.put, List.setIfInBounds_toArray, List.set_cons_zero, List.set_cons_succ]
          refine wpAnyH_ready (rs := [6]) (by kernel_rfl) (by simp) ?_
          refine AllReadyH.cons (o := { dst := some 22, op := Op.buildSlice 22 1 #[(0, Operand.tmp 21)], type := 22, pos := "rows.go:43", after := #[{ on := 5, ground := Ground.data }], guard := none }) rfl (fun K hK => ?_) AllReadyH.nil
          go_simp
          have hb6 := (Below.refl wd.heap.size wd).alloc (Nat.le_refl _) (Obj.cells #[.string rx.1, .slice none 0 0, .bool true] 51)
          have hA := (HSTD.out.below hb6).bx.cell
          try (go_wp2_with fail)
          have hHeld' := hHeld.below hb6
          refine hK.out _ _ ?_ (fun _ => ?_)
          · exact hHeld'
          clear hK K hHeld
          have hHeld := hHeld'
          clear hHeld'
          try simp only [Act.put, List.setIfInBounds_toArray, List.set_cons_zero, List.set_cons_succ]
          refine wpAnyH_ready (rs := [7]) (by kernel_rfl) (by simp) ?_
          refine AllReadyH.cons (o := { dst := some 23, op := Op.call { callee := Callee.builtin Builtin.append, args := #[Operand.tmp 16, Operand.tmp 22], argTypes := #[22, 22] }, type := 22, pos := "rows.go:43", after := #[{ on := 0, ground := Ground.data }, { on := 6, ground := Ground.data }], guard := none }) rfl (fun K hK => ?_) AllReadyH.nil
          obtain ⟨us, hus, ho, hf⟩ := HSTD.out.oc
          have HUL := Lib.hid (show us.length ≤ 3000000 by have h := congrArg List.length hus; rw [List.length_map] at h; rw [h]; exact HLN.out)
          have hoA := own_below ho hb6
          have hss := HSTD.out.dk.1.size
          refine step_own rfl (.tmp 16) (.tmp 22) 22 22 rfl w.heap.size 51 (.agg #[.string ⟨#[]⟩, .slice none 0 0, .bool false]) 3 48 Try.underlying22 info51 rfl rfl hoA rfl (src_three _ rfl Try.underlying22 51 _ _ _ rfl rfl rfl) (Below.refl w.heap.size _) (Nat.le_refl _) ?_ ?_ ?_ ?_
          · have := HUL.out; unfold maxLen; omega
          · have := HUL.out; omega
          · simp; omega
          intro v5 w5 ho5 hb5 hg5
          obtain ⟨g5, c5, rfl⟩ := ownsRow_succ ho5
          obtain ⟨hbx, hdk5, hst5, hko5, hbe5⟩ := HSTD.out.push hus ho hf (.inl ⟨rfl, rfl⟩) ho5 hg5
          have hc5 := hbx.cell
          have hf5 := hbx.frozen
          have HST5 := Lib.hid hst5
          have HKO5 := Lib.hid hko5
          clear hst5 hko5 hbe5 hus ho hf hoA ho5 hb5 hg5
          have hHeld' := hdk5
          refine hK.out _ _ ?_ (fun _ => ?_)
          · exact hHeld'
          clear hK K hHeld
          have hHeld := hHeld'
          clear hHeld'
          try simp only [Act.put, List.setIfInBounds_toArray, List.set_cons_zero, List.set_cons_succ]
          refine wpAnyH_ready (rs := [8]) (by kernel_rfl) (by simp) ?_
          refine AllReadyH.cons (o := { dst := none, op := Op.store 22 (Operand.tmp 5) (Operand.tmp 23), type := 0, pos := "rows.go:43", after := #[{ on := 7, ground := Ground.data }, { on := 7, ground := Ground.chain }, { on := 0, ground := Ground.phase }, { on := 1, ground := Ground.phase }, { on := 2, ground := Ground.phase }, { on := 3, ground := Ground.phase }, { on := 4, ground := Ground.phase }, { on := 5, ground := Ground.phase }, { on := 6, ground := Ground.phase }, { on := 7, ground := Ground.phase }], guard := none }) rfl (fun K hK => ?_) AllReadyH.nil
          go_simp
          try (go_wp2_with fail)
          have hHeld' := HST5.out.dk
          refine hK.out _ _ ?_ (fun _ => ?_)
          · exact hHeld'
          clear hK K hHeld
          have hHeld := hHeld'
          clear hHeld'
          try simp only [Act.put, List.setIfInBounds_toArray, List.set_cons_zero, List.set_cons_succ]
          refine wpAnyH_done (by kernel_rfl) ?_ _
          try simp only [Exit.then]
          exact ⟨(HKOD.out.trans HKO5.out).from _, fun _ => HST5.out.dk, ⟨_, by rw [List.map_append, List.flatMap_append, ← HE.out]; exact HST5.out, by rw [List.map_append, List.flatMap_append, ← HE.out, List.length_append, List.length_append]; simp [emitL]; omega⟩⟩
        · go_simp
          have hb6 := (Below.refl wd.heap.size wd).alloc (Nat.le_refl _) (Obj.cells #[.string rx.1, .slice none 0 0, .bool true] 51)
          have hA := (HSTD.out.below hb6).bx.cell
          try (go_wp2_with fail)
          have hHeld' := hHeld.below hb6
          refine hK.out _ _ ?_ (fun _ => ?_)
          · exact hHeld'
          clear hK K hHeld
          have hHeld := hHeld'
          clear hHeld'
          try simp only [Act.put, List.setIfInBounds_toArray, List.set_cons_zero, List.set_cons_succ]
          refine wpAnyH_ready (rs := [0]) (by kernel_rfl) (by simp) ?_
          refine AllReadyH.cons (o := { dst := some 16, op := Op.load 22 (Operand.tmp 5), type := 22, pos := "rows.go:43", after := #[], guard := none }) rfl (fun K hK => ?_) AllReadyH.nil
          go_simp
          try (go_wp2_with fail)
          refine hK.out _ _ ?_ (fun _ => ?_)
          · exact hHeld
          clear hK K
          try simp only [Act.put, List.setIfInBounds_toArray, List.set_cons_zero, List.set_cons_succ]
          refine wpAnyH_ready (rs := [7]) (by kernel_rfl) (by simp) ?_
          refine AllReadyH.cons (o := { dst := some 23, op := Op.call { callee := Callee.builtin Builtin.append, args := #[Operand.tmp 16, Operand.tmp 22], argTypes := #[22, 22] }, type := 22, pos := "rows.go:43", after := #[{ on := 0, ground := Ground.data }, { on := 6, ground := Ground.data }], guard := none }) rfl (fun K hK => ?_) AllReadyH.nil
          obtain ⟨us, hus, ho, hf⟩ := HSTD.out.oc
          have HUL := Lib.hid (show us.length ≤ 3000000 by have h := congrArg List.length hus; rw [List.length_map] at h; rw [h]; exact HLN.out)
          have hoA := own_below ho hb6
          have hss := HSTD.out.dk.1.size
          refine step_own rfl (.tmp 16) (.tmp 22) 22 22 rfl w.heap.size 51 (.agg #[.string ⟨#[]⟩, .slice none 0 0, .bool false]) 3 48 Try.underlying22 info51 rfl rfl hoA rfl (src_three _ rfl Try.underlying22 51 _ _ _ rfl rfl rfl) (Below.refl w.heap.size _) (Nat.le_refl _) ?_ ?_ ?_ ?_
          · have := HUL.out; unfold maxLen; omega
          · have := HUL.out; omega
          · simp; omega
          intro v5 w5 ho5 hb5 hg5
          obtain ⟨g5, c5, rfl⟩ := ownsRow_succ ho5
          obtain ⟨hbx, hdk5, hst5, hko5, hbe5⟩ := HSTD.out.push hus ho hf (.inl ⟨rfl, rfl⟩) ho5 hg5
          have hc5 := hbx.cell
          have hf5 := hbx.frozen
          have HST5 := Lib.hid hst5
          have HKO5 := Lib.hid hko5
          clear hst5 hko5 hbe5 hus ho hf hoA ho5 hb5 hg5
          have hHeld' := hdk5
          refine hK.out _ _ ?_ (fun _ => ?_)
          · exact hHeld'
          clear hK K hHeld
          have hHeld := hHeld'
          clear hHeld'
          try simp only [Act.put, List.setIfInBounds_toArray, List.set_cons_zero, List.set_cons_succ]
          refine wpAnyH_ready (rs := [8]) (by kernel_rfl) (by simp) ?_
          refine AllReadyH.cons (o := { dst := none, op := Op.store 22 (Operand.tmp 5) (Operand.tmp 23), type := 0, pos := "rows.go:43", after := #[{ on := 7, ground := Ground.data }, { on := 7, ground := Ground.chain }, { on := 0, ground := Ground.phase }, { on := 1, ground := Ground.phase }, { on := 2, ground := Ground.phase }, { on := 3, ground := Ground.phase }, { on := 4, ground := Ground.phase }, { on := 5, ground := Ground.phase }, { on := 6, ground := Ground.phase }, { on := 7, ground := Ground.phase }], guard := none }) rfl (fun K hK => ?_) AllReadyH.nil
          go_simp
          try (go_wp2_with fail)
          have hHeld' := HST5.out.dk
          refine hK.out _ _ ?_ (fun _ => ?_)
          · exact hHeld'
          clear hK K hHeld
          have hHeld := hHeld'
          clear hHeld'
          try simp only [Act.put, List.setIfInBounds_toArray, List.set_cons_zero, List.set_cons_succ]
          refine wpAnyH_done (by kernel_rfl) ?_ _
          try simp only [Exit.then]
          exact ⟨(HKOD.out.trans HKO5.out).from _, fun _ => HST5.out.dk, ⟨_, by rw [List.map_append, List.flatMap_append, ← HE.out]; exact HST5.out, by rw [List.map_append, List.flatMap_append, ← HE.out, List.length_append, List.length_append]; simp [emitL]; omega⟩⟩
    | some ry =>
      obtain ⟨b2, of2, u2, rfl, hbw2, hx2, hy2, hr2⟩ := hp2
      obtain ⟨A3, c3, hu2⟩ : ∃ A c, u2 = .slice A ry.2.length c := by obtain ⟨A, c, h, _⟩ := hr2; exact ⟨A, c, h⟩
      subst hu2
      cases o1 with
      | none =>
        have hp1 : p1 = .pointer none := hp1
        subst hp1
        gi_wp2
        have HSTD := Lib.hid (HST.out.below (Below.refl _ _).drew)
        have hA := HSTD.out.bx.cell
        have HKOD := Lib.hid (HKO.out.trans (KeepsOthers.drew _))
        refine wpIn_region_round (S := DK w (.slice A1 fs.length c1) (.slice A2 ts.length c2)) (by kernel_rfl) (by kernel_rfl) (fun a w h => h) HSTD.out.dk (fun hHeld => ?_)
        generalize X.drew = wd at *
        refine wpAnyH_take (i := 0) (oi := { dst := some 25, op := Op.move (Operand.tmp 6), type := 67, pos := "rows.go:44", after := #[], guard := none }) (v := ?_) rfl (by kernel_rfl) (by kernel_rfl) (by kernel_rfl) (fun _ _ _ h => h.elim) (Or.inl ⟨by rfl, ?_⟩) (by assumption) ?_
        rotate_left
        · intro X hSw; go_simp; try (with_reducible rfl)
        try simp only [Act.put, List.setIfInBounds_toArray, List.set_cons_zero, List.set_cons_succ]
        refine wpAnyH_take (i := 1) (oi := { dst := some 26, op := Op.binOp BinOp.eql 67 (Operand.tmp 25) (Operand.const (Value.pointer none)) 67, type := 4, pos := "rows.go:44", after := #[{ on := 0, ground := Ground.data }], guard := none }) (v := ?_) rfl (by kernel_rfl) (by kernel_rfl) (by kernel_rfl) (fun _ _ _ h => h.elim) (Or.inl ⟨by rfl, ?_⟩) (by assumption) ?_
        rotate_left
        · intro X hSw; go_simp; try (with_reducible rfl)
        try simp only [Act.put, List.setIfInBounds_toArray, List.set_cons_zero, List.set_cons_succ]
        refine wpAnyH_take (i := 2) (oi := { dst := some 27, op := Op.move (Operand.tmp 26), type := 4, pos := "rows.go:44", after := #[{ on := 1, ground := Ground.data }], guard := none }) (v := ?_) rfl (by kernel_rfl) (by kernel_rfl) (by kernel_rfl) (fun _ _ _ h => h.elim) (Or.inl ⟨by rfl, ?_⟩) (by assumption) ?_
        rotate_left
        · intro X hSw; go_simp; try (with_reducible rfl)
        try simp only [Act.put, List.setIfInBounds_toArray, List.set_cons_zero, List.set_cons_succ]
        refine wpAnyH_take (i := 3) (oi := { dst := some 28, op := Op.move (Operand.tmp 6), type := 67, pos := "rows.go:44", after := #[{ on := 2, ground := Ground.guard }], guard := some (2, false) }) (v := undef) rfl (by kernel_rfl) (by kernel_rfl) (by kernel_rfl) (fun _ _ _ h => h.elim) (Or.inr ⟨by rfl, rfl⟩) (by assumption) ?_
        try simp only [Act.put, List.setIfInBounds_toArray, List.set_cons_zero, List.set_cons_succ]
        refine wpAnyH_take (i := 4) (oi := { dst := some 29, op := Op.nilCheck (Operand.tmp 28), type := 0, pos := "rows.go:44", after := #[{ on := 3, ground := Ground.data }, { on := 2, ground := Ground.guard }], guard := some (2, false) }) (v := undef) rfl (by kernel_rfl) (by kernel_rfl) (by kernel_rfl) (fun _ _ _ h => h.elim) (Or.inr ⟨by rfl, rfl⟩) (by assumption) ?_
        try simp only [Act.put, List.setIfInBounds_toArray, List.set_cons_zero, List.set_cons_succ]
        refine wpAnyH_take (i := 5) (oi := { dst := some 30, op := Op.fieldAddr 53 (Operand.tmp 29) 1, type := 0, pos := "rows.go:44", after := #[{ on := 4, ground := Ground.data }, { on := 2, ground := Ground.guard }], guard := some (2, false) }) (v := undef) rfl (by kernel_rfl) (by kernel_rfl) (by kernel_rfl) (fun _ _ _ h => h.elim) (Or.inr ⟨by rfl, rfl⟩) (by assumption) ?_
        try simp only [Act.put, List.setIfInBounds_toArray, List.set_cons_zero, List.set_cons_succ]
        refine wpAnyH_take (i := 6) (oi := { dst := some 31, op := Op.load 23 (Operand.tmp 30), type := 23, pos := "rows.go:44", after := #[{ on := 5, ground := Ground.data }, { on := 2, ground := Ground.guard }], guard := some (2, false) }) (v := undef) rfl (by kernel_rfl) (by kernel_rfl) (by kernel_rfl) (fun _ _ _ h => h.elim) (Or.inr ⟨by rfl, rfl⟩) (by assumption) ?_
        try simp only [Act.put, List.setIfInBounds_toArray, List.set_cons_zero, List.set_cons_succ]
        refine wpAnyH_take (i := 7) (oi := { dst := some 32, op := Op.move (Operand.tmp 7), type := 67, pos := "rows.go:44", after := #[{ on := 2, ground := Ground.guard }], guard := some (2, false) }) (v := undef) rfl (by kernel_rfl) (by kernel_rfl) (by kernel_rfl) (fun _ _ _ h => h.elim) (Or.inr ⟨by rfl, rfl⟩) (by assumption) ?_
        try simp only [Act.put, List.setIfInBounds_toArray, List.set_cons_zero, List.set_cons_succ]
        refine wpAnyH_take (i := 8) (oi := { dst := some 33, op := Op.nilCheck (Operand.tmp 32), type := 0, pos := "rows.go:44", after := #[{ on := 7, ground := Ground.data }, { on := 2, ground := Ground.guard }], guard := some (2, false) }) (v := undef) rfl (by kernel_rfl) (by kernel_rfl) (by kernel_rfl) (fun _ _ _ h => h.elim) (Or.inr ⟨by rfl, rfl⟩) (by assumption) ?_
        try simp only [Act.put, List.setIfInBounds_toArray, List.set_cons_zero, List.set_cons_succ]
        refine wpAnyH_take (i := 9) (oi := { dst := some 34, op := Op.fieldAddr 53 (Operand.tmp 33) 1, type := 0, pos := "rows.go:44", after := #[{ on := 8, ground := Ground.data }, { on := 2, ground := Ground.guard }], guard := some (2, false) }) (v := undef) rfl (by kernel_rfl) (by kernel_rfl) (by kernel_rfl) (fun _ _ _ h => h.elim) (Or.inr ⟨by rfl, rfl⟩) (by assumption) ?_
        try simp only [Act.put, List.setIfInBounds_toArray, List.set_cons_zero, List.set_cons_succ]
        refine wpAnyH_take (i := 10) (oi := { dst := some 35, op := Op.load 23 (Operand.tmp 34), type := 23, pos := "rows.go:44", after := #[{ on := 9, ground := Ground.data }, { on := 2, ground := Ground.guard }], guard := some (2, false) }) (v := undef) rfl (by kernel_rfl) (by kernel_rfl) (by kernel_rfl) (fun _ _ _ h => h.elim) (Or.inr ⟨by rfl, rfl⟩) (by assumption) ?_
        try simp only [Act.put, List.setIfInBounds_toArray, List.set_cons_zero, List.set_cons_succ]
        refine wpAnyH_take (i := 11) (oi := { dst := some 36, op := Op.call { callee := Callee.value (Operand.func 40), args := #[Operand.tmp 31, Operand.tmp 35], argTypes := #[23, 23] }, type := 4, pos := "rows.go:44", after := #[{ on := 6, ground := Ground.data }, { on := 10, ground := Ground.data }, { on := 2, ground := Ground.chain }, { on := 2, ground := Ground.guard }], guard := some (2, false) }) (v := undef) rfl (by kernel_rfl) (by kernel_rfl) (by kernel_rfl) (fun _ _ _ h => h.elim) (Or.inr ⟨by rfl, rfl⟩) (by assumption) ?_
        try simp only [Act.put, List.setIfInBounds_toArray, List.set_cons_zero, List.set_cons_succ]
        refine wpAnyH_take (i := 12) (oi := { dst := some 37, op := Op.unOp UnOp.not 4 (Operand.tmp 36), type := 4, pos := "rows.go:44", after := #[{ on := 11, ground := Ground.data }, { on := 2, ground := Ground.guard }], guard := some (2, false) }) (v := undef) rfl (by kernel_rfl) (by kernel_rfl) (by kernel_rfl) (fun _ _ _ h => h.elim) (Or.inr ⟨by rfl, rfl⟩) (by assumption) ?_
        try simp only [Act.put, List.setIfInBounds_toArray, List.set_cons_zero, List.set_cons_succ]
        refine wpAnyH_take (i := 13) (oi := { dst := some 38, op := Op.pick (Operand.tmp 27) (Operand.const (Value.bool true)) (Operand.tmp 37), type := 4, pos := "rows.go:44", after := #[{ on := 2, ground := Ground.data }, { on := 12, ground := Ground.data }], guard := none }) (v := ?_) rfl (by kernel_rfl) (by kernel_rfl) (by kernel_rfl) (fun _ _ _ h => h.elim) (Or.inl ⟨by rfl, ?_⟩) (by assumption) ?_
        rotate_left
        · intro X hSw; go_simp; try (with_reducible rfl)
        try simp only [Act.put, List.setIfInBounds_toArray, List.set_cons_zero, List.set_cons_succ]
        refine wpAnyH_take (i := 14) (oi := { dst := some 24, op := Op.assign (Operand.tmp 38), type := 4, pos := "rows.go:44", after := #[{ on := 13, ground := Ground.data }, { on := 11, ground := Ground.chain }], guard := none }) (v := ?_) rfl (by kernel_rfl) (by kernel_rfl) (by kernel_rfl) (fun _ _ _ h => h.elim) (Or.inl ⟨by rfl, ?_⟩) (by assumption) ?_
        rotate_left
        · intro X hSw; go_simp; try (with_reducible rfl)
        try simp only [Act.put, List.setIfInBounds_toArray, List.set_cons_zero, List.set_cons_succ]
        refine wpAnyH_done (by kernel_rfl) ?_ _
        simp only [Exit.then]
        gi_wp2
        have HSTE := Lib.hid (HSTD.out.below (Below.refl _ _).drew)
        have hA := HSTE.out.bx.cell
        have HKOE := Lib.hid (HKOD.out.trans (KeepsOthers.drew _))
        refine wpIn_region_round (S := DK w (.slice A1 fs.length c1) (.slice A2 ts.length c2)) (by kernel_rfl) (by kernel_rfl) (fun a w h => h) HSTE.out.dk (fun hHeld => ?_)
        generalize wd.drew = we at *
        refine wpAnyH_take (i := 1) (oi := { dst := some 40, op := Op.move (Operand.tmp 7), type := 67, pos := "rows.go:45", after := #[], guard := none }) (v := ?_) rfl (by kernel_rfl) (by kernel_rfl) (by kernel_rfl) (fun _ _ _ h => h.elim) (Or.inl ⟨by rfl, ?_⟩) (by assumption) ?_
        rotate_left
        · intro X hSw; go_simp; try (with_reducible rfl)
        try simp only [Act.put, List.setIfInBounds_toArray, List.set_cons_zero, List.set_cons_succ]
        refine wpAnyH_take (i := 2) (oi := { dst := some 41, op := Op.nilCheck (Operand.tmp 40), type := 0, pos := "rows.go:45", after := #[{ on := 1, ground := Ground.data }], guard := none }) (v := ?_) rfl (by kernel_rfl) (by kernel_rfl) (by kernel_rfl) (fun _ _ _ h => h.elim) (Or.inl ⟨by rfl, ?_⟩) (by assumption) ?_
        rotate_left
        · intro X hSw; go_simp; try (with_reducible rfl)
        try simp only [Act.put, List.setIfInBounds_toArray, List.set_cons_zero, List.set_cons_succ]
        refine wpAnyH_take (i := 3) (oi := { dst := some 42, op := Op.fieldAddr 53 (Operand.tmp 41) 0, type := 0, pos := "rows.go:45", after := #[{ on := 2, ground := Ground.data }], guard := none }) (v := ?_) rfl (by kernel_rfl) (by kernel_rfl) (by kernel_rfl) (fun _ _ _ h => h.elim) (Or.inl ⟨by rfl, ?_⟩) (by assumption) ?_
        rotate_left
        · intro X hSw; go_simp; try (with_reducible rfl)
        try simp only [Act.put, List.setIfInBounds_toArray, List.set_cons_zero, List.set_cons_succ]
        refine wpAnyH_take (i := 4) (oi := { dst := some 43, op := Op.load 9 (Operand.tmp 42), type := 9, pos := "rows.go:45", after := #[{ on := 3, ground := Ground.data }], guard := none }) (v := ?_) rfl (by kernel_rfl) (by kernel_rfl) (by kernel_rfl) (fun _ _ _ h => h.elim) (Or.inl ⟨by rfl, ?_⟩) (by assumption) ?_
        rotate_left
        · intro X hSw; have hq := (hSw.1.cell (p := ⟨b2, of2, none⟩) hbw2).trans hx2; go_simp; try (with_reducible rfl)
        try simp only [Act.put, List.setIfInBounds_toArray, List.set_cons_zero, List.set_cons_succ]
        refine wpAnyH_take (i := 5) (oi := { dst := some 44, op := Op.move (Operand.tmp 7), type := 67, pos := "rows.go:45", after := #[], guard := none }) (v := ?_) rfl (by kernel_rfl) (by kernel_rfl) (by kernel_rfl) (fun _ _ _ h => h.elim) (Or.inl ⟨by rfl, ?_⟩) (by assumption) ?_
        rotate_left
        · intro X hSw; go_simp; try (with_reducible rfl)
        try simp only [Act.put, List.setIfInBounds_toArray, List.set_cons_zero, List.set_cons_succ]
        refine wpAnyH_take (i := 6) (oi := { dst := some 45, op := Op.nilCheck (Operand.tmp 44), type := 0, pos := "rows.go:45", after := #[{ on := 5, ground := Ground.data }], guard := none }) (v := ?_) rfl (by kernel_rfl) (by kernel_rfl) (by kernel_rfl) (fun _ _ _ h => h.elim) (Or.inl ⟨by rfl, ?_⟩) (by assumption) ?_
        rotate_left
        · intro X hSw; go_simp; try (with_reducible rfl)
        try simp only [Act.put, List.setIfInBounds_toArray, List.set_cons_zero, List.set_cons_succ]
        refine wpAnyH_take (i := 7) (oi := { dst := some 46, op := Op.fieldAddr 53 (Operand.tmp 45) 1, type := 0, pos := "rows.go:45", after := #[{ on := 6, ground := Ground.data }], guard := none }) (v := ?_) rfl (by kernel_rfl) (by kernel_rfl) (by kernel_rfl) (fun _ _ _ h => h.elim) (Or.inl ⟨by rfl, ?_⟩) (by assumption) ?_
        rotate_left
        · intro X hSw; go_simp; try (with_reducible rfl)
        try simp only [Act.put, List.setIfInBounds_toArray, List.set_cons_zero, List.set_cons_succ]
        refine wpAnyH_take (i := 8) (oi := { dst := some 47, op := Op.load 23 (Operand.tmp 46), type := 23, pos := "rows.go:45", after := #[{ on := 7, ground := Ground.data }], guard := none }) (v := ?_) rfl (by kernel_rfl) (by kernel_rfl) (by kernel_rfl) (fun _ _ _ h => h.elim) (Or.inl ⟨by rfl, ?_⟩) (by assumption) ?_
        rotate_left
        · intro X hSw; have hq := (hSw.1.cell (p := ⟨b2, of2 + 1, none⟩) hbw2).trans hy2; go_simp; try (with_reducible rfl)
        try simp only [Act.put, List.setIfInBounds_toArray, List.set_cons_zero, List.set_cons_succ]
        refine wpAnyH_ready (rs := [0, 9]) (by kernel_rfl) (by simp) ?_
        refine AllReadyH.cons (o := { dst := some 39, op := Op.load 22 (Operand.tmp 5), type := 22, pos := "rows.go:45", after := #[], guard := none }) rfl (fun K hK => ?_) (AllReadyH.cons (o := { dst := some 48, op := Op.call { callee := Callee.value (Operand.func 41), args := #[Operand.tmp 47], argTypes := #[23] }, type := 23, pos := "rows.go:45", after := #[{ on := 8, ground := Ground.data }], guard := none }) rfl (fun K hK => ?_) AllReadyH.nil)
        · go_simp
          try (go_wp2_with fail)
          refine hK.out _ _ ?_ (fun _ => ?_)
          · exact hHeld
          clear hK K
          try simp only [Act.put, List.setIfInBounds_toArray, List.set_cons_zero, List.set_cons_succ]
          refine wpAnyH_ready (rs := [9]) (by kernel_rfl) (by simp) ?_
          refine AllReadyH.cons (o := { dst := some 48, op := Op.call { callee := Callee.value (Operand.func 41), args := #[Operand.tmp 47], argTypes := #[23] }, type := 23, pos := "rows.go:45", after := #[{ on := 8, ground := Ground.data }], guard := none }) rfl (fun K hK => ?_) AllReadyH.nil
          go_simp
          refine (cloneB_any _ ry.2 _ (hr2.below hHeld.1) (hvl ry rfl)).mono ?_
          rintro e w4 ⟨u4, rfl, hfb4, hb4⟩
          obtain ⟨A4, c4, rfl⟩ := hfb4.shape
          have HST4 := Lib.hid (HSTE.out.below hb4)
          have hA := HST4.out.bx.cell
          have HF4 := Lib.hid (hfb4.base_ (base' := w.heap.size) HSTE.out.dk.1.size)
          have HKO4 := Lib.hid (KeepsOthers.of_grownBy (grown_none hb4) (fun _ _ h => (by cases h)))
          try (go_wp2_with fail)
          have hHeld' := hHeld.below hb4
          refine hK.out _ _ ?_ (fun _ => ?_)
          · exact hHeld'
          clear hK K hHeld
          have hHeld := hHeld'
          clear hHeld'
          try simp only [Act.put, List.setIfInBounds_toArray, List.set_cons_zero, List.set_cons_succ]
          refine wpAnyH_take (i := 10) (oi := { dst := some 49, op := Op.build 51 #[(0, Operand.tmp 43), (1, Operand.tmp 48)], type := 51, pos := "rows.go:45", after := #[{ on := 4, ground := Ground.data }, { on := 9, ground := Ground.data }], guard := none }) (v := ?_) rfl (by kernel_rfl) (by kernel_rfl) (by kernel_rfl) (fun _ _ _ h => h.elim) (Or.inl ⟨by rfl, ?_⟩) (by assumption) ?_
          rotate_left
          · intro X hSw; go_simp; try (with_reducible rfl)
          try simp only [Act.put, List.setIfInBounds_toArray, List.set_cons_zero, List.set_cons_succ]
          refine wpAnyH_ready (rs := [11]) (by kernel_rfl) (by simp) ?_
          refine AllReadyH.cons (o := { dst := some 50, op := Op.buildSlice 22 1 #[(0, Operand.tmp 49)], type := 22, pos := "rows.go:45", after := #[{ on := 10, ground := Ground.data }], guard := none }) rfl (fun K hK => ?_) AllReadyH.nil
          go_simp
          have hb6 := (Below.refl w4.heap.size w4).alloc (Nat.le_refl _) (Obj.cells #[.string ry.1, .slice A4 ry.2.length c4, .bool false] 51)
          have hA := (HST4.out.below hb6).bx.cell
          try (go_wp2_with fail)
          have hHeld' := hHeld.below hb6
          refine hK.out _ _ ?_ (fun _ => ?_)
          · exact hHeld'
          clear hK K hHeld
          have hHeld := hHeld'
          clear hHeld'
          try simp only [Act.put, List.setIfInBounds_toArray, List.set_cons_zero, List.set_cons_succ]
          refine wpAnyH_ready (rs := [12]) (by kernel_rfl) (by simp) ?_
          refine AllReadyH.cons (o := { dst := some 51, op := Op.call { callee := Callee.builtin Builtin.append, args := #[Operand.tmp 39, Operand.tmp 50], argTypes := #[22, 22] }, type := 22, pos := "rows.go:45", after := #[{ on := 0, ground := Ground.data }, { on := 11, ground := Ground.data }, { on := 9, ground := Ground.chain }], guard := none }) rfl (fun K hK => ?_) AllReadyH.nil
          obtain ⟨us, hus, ho, hf⟩ := HST4.out.oc
          have HUL := Lib.hid (show us.length ≤ 3000000 by have h := congrArg List.length hus; rw [List.length_map] at h; rw [h]; exact HLN.out)
          have hoA := own_below ho hb6
          have hss := HST4.out.dk.1.size
          refine step_own rfl (.tmp 39) (.tmp 50) 22 22 rfl w.heap.size 51 (.agg #[.string ⟨#[]⟩, .slice none 0 0, .bool false]) 3 48 Try.underlying22 info51 rfl rfl hoA rfl (src_three _ rfl Try.underlying22 51 _ _ _ rfl rfl rfl) (Below.refl w.heap.size _) (Nat.le_refl _) ?_ ?_ ?_ ?_
          · have := HUL.out; unfold maxLen; omega
          · have := HUL.out; omega
          · simp; omega
          intro v5 w5 ho5 hb5 hg5
          obtain ⟨g5, c5, rfl⟩ := ownsRow_succ ho5
          obtain ⟨hbx, hdk5, hst5, hko5, hbe5⟩ := HST4.out.push hus ho hf HF4.out ho5 hg5
          have hc5 := hbx.cell
          have hf5 := hbx.frozen
          have HST5 := Lib.hid hst5
          have HKO5 := Lib.hid hko5
          clear hst5 hko5 hbe5 hus ho hf hoA ho5 hb5 hg5
          have hHeld' := hdk5
          refine hK.out _ _ ?_ (fun _ => ?_)
          · exact hHeld'
          clear hK K hHeld
          have hHeld := hHeld'
          clear hHeld'
          try simp only [Act.put, List.setIfInBounds_toArray, List.set_cons_zero, List.set_cons_succ]
          refine wpAnyH_ready (rs := [13]) (by kernel_rfl) (by simp) ?_
          refine AllReadyH.cons (o := { dst := none, op := Op.store 22 (Operand.tmp 5) (Operand.tmp 51), type := 0, pos := "rows.go:45", after := #[{ on := 12, ground := Ground.data }, { on := 12, ground := Ground.chain }, { on := 0, ground := Ground.phase }, { on := 1, ground := Ground.phase }, { on := 2, ground := Ground.phase }, { on := 3, ground := Ground.phase }, { on := 4, ground := Ground.phase }, { on := 5, ground := Ground.phase }, { on := 6, ground := Ground.phase }, { on := 7, ground := Ground.phase }, { on := 8, ground := Ground.phase }, { on := 9, ground := Ground.phase }, { on := 10, ground := Ground.phase }, { on := 11, ground := Ground.phase }, { on := 12, ground := Ground.phase }], guard := none }) rfl (fun K hK => ?_) AllReadyH.nil
          go_simp
          try (go_wp2_with fail)
          have hHeld' := HST5.out.dk
          refine hK.out _ _ ?_ (fun _ => ?_)
          · exact hHeld'
          clear hK K hHeld
          have hHeld := hHeld'
          clear hHeld'
          try simp only [Act.put, List.setIfInBounds_toArray, List.set_cons_zero, List.set_cons_succ]
          refine wpAnyH_done (by kernel_rfl) ?_ _
          try simp only [Exit.then]
          exact ⟨(HKOE.out.trans (HKO4.out.trans HKO5.out)).from _, fun _ => HST5.out.dk, ⟨_, by rw [List.map_append, List.flatMap_append, ← HE.out]; exact HST5.out, by rw [List.map_append, List.flatMap_append, ← HE.out, List.length_append, List.length_append]; simp [emitL]; omega⟩⟩
        · go_simp
          refine (cloneB_any _ ry.2 _ (hr2.below hHeld.1) (hvl ry rfl)).mono ?_
          rintro e w4 ⟨u4, rfl, hfb4, hb4⟩
          obtain ⟨A4, c4, rfl⟩ := hfb4.shape
          have HST4 := Lib.hid (HSTE.out.below hb4)
          have hA := HST4.out.bx.cell
          have HF4 := Lib.hid (hfb4.base_ (base' := w.heap.size) HSTE.out.dk.1.size)
          have HKO4 := Lib.hid (KeepsOthers.of_grownBy (grown_none hb4) (fun _ _ h => (by cases h)))
          try (go_wp2_with fail)
          have hHeld' := hHeld.below hb4
          refine hK.out _ _ ?_ (fun _ => ?_)
          · exact hHeld'
          clear hK K hHeld
          have hHeld := hHeld'
          clear hHeld'
          try simp only [Act.put, List.setIfInBounds_toArray, List.set_cons_zero, List.set_cons_succ]
          refine wpAnyH_take (i := 10) (oi := { dst := some 49, op := Op.build 51 #[(0, Operand.tmp 43), (1, Operand.tmp 48)], type := 51, pos := "rows.go:45", after := #[{ on := 4, ground := Ground.data }, { on := 9, ground := Ground.data }], guard := none }) (v := ?_) rfl (by kernel_rfl) (by kernel_rfl) (by kernel_rfl) (fun _ _ _ h => h.elim) (Or.inl ⟨by rfl, ?_⟩) (by assumption) ?_
          rotate_left
          · intro X hSw; go_simp; try (with_reducible rfl)
          try simp only [Act.put, List.setIfInBounds_toArray, List.set_cons_zero, List.set_cons_succ]
          refine wpAnyH_ready (rs := [0, 11]) (by kernel_rfl) (by simp) ?_
          refine AllReadyH.cons (o := { dst := some 39, op := Op.load 22 (Operand.tmp 5), type := 22, pos := "rows.go:45", after := #[], guard := none }) rfl (fun K hK => ?_) (AllReadyH.cons (o := { dst := some 50, op := Op.buildSlice 22 1 #[(0, Operand.tmp 49)], type := 22, pos := "rows.go:45", after := #[{ on := 10, ground := Ground.data }], guard := none }) rfl (fun K hK => ?_) AllReadyH.nil)
          · go_simp
            try (go_wp2_with fail)
            refine hK.out _ _ ?_ (fun _ => ?_)
            · exact hHeld
            clear hK K
            try simp only [Act.put, List.setIfInBounds_toArray, List.set_cons_zero, List.set_cons_succ]
            refine wpAnyH_ready (rs := [11]) (by kernel_rfl) (by simp) ?_
            refine AllReadyH.cons (o := { dst := some 50, op := Op.buildSlice 22 1 #[(0, Operand.tmp 49)], type := 22, pos := "rows.go:45", after := #[{ on := 10, ground := Ground.data }], guard := none }) rfl (fun K hK => ?_) AllReadyH.nil
            go_simp
            have hb6 := (Below.refl w4.heap.size w4).alloc (Nat.le_refl _) (Obj.cells #[.string ry.1, .slice A4 ry.2.length c4, .bool false] 51)
            have hA := (HST4.out.below hb6).bx.cell
            try (go_wp2_with fail)
            have hHeld' := hHeld.below hb6
            refine hK.out _ _ ?_ (fun _ => ?_)
            · exact hHeld'
            clear hK K hHeld
            have hHeld := hHeld'
            clear hHeld'
            try simp only [Act.put, List.setIfInBounds_toArray, List.set_cons_zero, List.set_cons_succ]
            refine wpAnyH_ready (rs := [12]) (by kernel_rfl) (by simp) ?_
            refine AllReadyH.cons (o := { dst := some 51, op := Op.call { callee := Callee.builtin Builtin.append, args := #[Operand.tmp 39, Operand.tmp 50], argTypes := #[22, 22] }, type := 22, pos := "rows.go:45", after := #[{ on := 0, ground := Ground.data }, { on := 11, ground := Ground.data }, { on := 9, ground := Ground.chain }], guard := none }) rfl (fun K hK => ?_) AllReadyH.nil
            obtain ⟨us, hus, ho, hf⟩ := HST4.out.oc
            have HUL := Lib.hid (show us.length ≤ 3000000 by have h := congrArg List.length hus; rw [List.length_map] at h; rw [h]; exact HLN.out)
            have hoA := own_below ho hb6
            have hss := HST4.out.dk.1.size
            refine step_own rfl (.tmp 39) (.tmp 50) 22 22 rfl w.heap.size 51 (.agg #[.string ⟨#[]⟩, .slice none 0 0, .bool false]) 3 48 Try.underlying22 info51 rfl rfl hoA rfl (src_three _ rfl Try.underlying22 51 _ _ _ rfl rfl rfl) (Below.refl w.heap.size _) (Nat.le_refl _) ?_ ?_ ?_ ?_
            · have := HUL.out; unfold maxLen; omega
            · have := HUL.out; omega
            · simp; omega
            intro v5 w5 ho5 hb5 hg5
            obtain ⟨g5, c5, rfl⟩ := ownsRow_succ ho5
            obtain ⟨hbx, hdk5, hst5, hko5, hbe5⟩ := HST4.out.push hus ho hf HF4.out ho5 hg5
            have hc5 := hbx.cell
            have hf5 := hbx.frozen
            have HST5 := Lib.hid hst5
            have HKO5 := Lib.hid hko5
            clear hst5 hko5 hbe5 hus ho hf hoA ho5 hb5 hg5
            have hHeld' := hdk5
            refine hK.out _ _ ?_ (fun _ => ?_)
            · exact hHeld'
            clear hK K hHeld
            have hHeld := hHeld'
            clear hHeld'
            try simp only [Act.put, List.setIfInBounds_toArray, List.set_cons_zero, List.set_cons_succ]
            refine wpAnyH_ready (rs := [13]) (by kernel_rfl) (by simp) ?_
            refine AllReadyH.cons (o := { dst := none, op := Op.store 22 (Operand.tmp 5) (Operand.tmp 51), type := 0, pos := "rows.go:45", after := #[{ on := 12, ground := Ground.data }, { on := 12, ground := Ground.chain }, { on := 0, ground := Ground.phase }, { on := 1, ground := Ground.phase }, { on := 2, ground := Ground.phase }, { on := 3, ground := Ground.phase }, { on := 4, ground := Ground.phase }, { on := 5, ground := Ground.phase }, { on := 6, ground := Ground.phase }, { on := 7, ground := Ground.phase }, { on := 8, ground := Ground.phase }, { on := 9, ground := Ground.phase }, { on := 10, ground := Ground.phase }, { on := 11, ground := Ground.phase }, { on := 12, ground := Ground.phase }], guard := none }) rfl (fun K hK => ?_) AllReadyH.nil
            go_simp
            try (go_wp2_with fail)
            have hHeld' := HST5.out.dk
            refine hK.out _ _ ?_ (fun _ => ?_)
            · exact hHeld'
            clear hK K hHeld
            have hHeld := hHeld'
            clear hHeld'
            try simp only [Act.put, List.setIfInBounds_toArray, List.set_cons_zero, List.set_cons_succ]
            refine wpAnyH_done (by kernel_rfl) ?_ _
            try simp only [Exit.then]
            exact ⟨(HKOE.out.trans (HKO4.out.trans HKO5.out)).from _, fun _ => HST5.out.dk, ⟨_, by rw [List.map_append, List.flatMap_append, ← HE.out]; exact HST5.out, by rw [List.map_append, List.flatMap_append, ← HE.out, List.length_append, List.length_append]; simp [emitL]; omega⟩⟩
          · go_simp
            have hb6 := (Below.refl w4.heap.size w4).alloc (Nat.le_refl _) (Obj.cells #[.string ry.1, .slice A4 ry.2.length c4, .bool false] 51)
            have hA := (HST4.out.below hb6).bx.cell
            try (go_wp2_with fail)
            have hHeld' := hHeld.below hb6
            refine hK.out _ _ ?_ (fun _ => ?_)
            · exact hHeld'
            clear hK K hHeld
            have hHeld := hHeld'
            clear hHeld'
            try simp only [Act.put, List.setIfInBounds_toArray, List.set_cons_zero, List.set_cons_succ]
            refine wpAnyH_ready (rs := [0]) (by kernel_rfl) (by simp) ?_
            refine AllReadyH.cons (o := { dst := some 39, op := Op.load 22 (Operand.tmp 5), type := 22, pos := "rows.go:45", after := #[], guard := none }) rfl (fun K hK => ?_) AllReadyH.nil
            go_simp
            try (go_wp2_with fail)
            refine hK.out _ _ ?_ (fun _ => ?_)
            · exact hHeld
            clear hK K
            try simp only [Act.put, List.setIfInBounds_toArray, List.set_cons_zero, List.set_cons_succ]
            refine wpAnyH_ready (rs := [12]) (by kernel_rfl) (by simp) ?_
            refine AllReadyH.cons (o := { dst := some 51, op := Op.call { callee := Callee.builtin Builtin.append, args := #[Operand.tmp 39, Operand.tmp 50], argTypes := #[22, 22] }, type := 22, pos := "rows.go:45", after := #[{ on := 0, ground := Ground.data }, { on := 11, ground := Ground.data }, { on := 9, ground := Ground.chain }], guard := none }) rfl (fun K hK => ?_) AllReadyH.nil
            obtain ⟨us, hus, ho, hf⟩ := HST4.out.oc
            have HUL := Lib.hid (show us.length ≤ 3000000 by have h := congrArg List.length hus; rw [List.length_map] at h; rw [h]; exact HLN.out)
            have hoA := own_below ho hb6
            have hss := HST4.out.dk.1.size
            refine step_own rfl (.tmp 39) (.tmp 50) 22 22 rfl w.heap.size 51 (.agg #[.string ⟨#[]⟩, .slice none 0 0, .bool false]) 3 48 Try.underlying22 info51 rfl rfl hoA rfl (src_three _ rfl Try.underlying22 51 _ _ _ rfl rfl rfl) (Below.refl w.heap.size _) (Nat.le_refl _) ?_ ?_ ?_ ?_
            · have := HUL.out; unfold maxLen; omega
            · have := HUL.out; omega
            · simp; omega
            intro v5 w5 ho5 hb5 hg5
            obtain ⟨g5, c5, rfl⟩ := ownsRow_succ ho5
            obtain ⟨hbx, hdk5, hst5, hko5, hbe5⟩ := HST4.out.push hus ho hf HF4.out ho5 hg5
            have hc5 := hbx.cell
            have hf5 := hbx.frozen
            have HST5 := Lib.hid hst5
            have HKO5 := Lib.hid hko5
            clear hst5 hko5 hbe5 hus ho hf hoA ho5 hb5 hg5
            have hHeld' := hdk5
            refine hK.out _ _ ?_ (fun _ => ?_)
            · exact hHeld'
            clear hK K hHeld
            have hHeld := hHeld'
            clear hHeld'
            try simp only [Act.put, List.setIfInBounds_toArray, List.set_cons_zero, List.set_cons_succ]
            refine wpAnyH_ready (rs := [13]) (by kernel_rfl) (by simp) ?_
            refine AllReadyH.cons (o := { dst := none, op := Op.store 22 (Operand.tmp 5) (Operand.tmp 51), type := 0, pos := "rows.go:45", after := #[{ on := 12, ground := Ground.data }, { on := 12, ground := Ground.chain }, { on := 0, ground := Ground.phase }, { on := 1, ground := Ground.phase }, { on := 2, ground := Ground.phase }, { on := 3, ground := Ground.phase }, { on := 4, ground := Ground.phase }, { on := 5, ground := Ground.phase }, { on := 6, ground := Ground.phase }, { on := 7, ground := Ground.phase }, { on := 8, ground := Ground.phase }, { on := 9, ground := Ground.phase }, { on := 10, ground := Ground.phase }, { on := 11, ground := Ground.phase }, { on := 12, ground := Ground.phase }], guard := none }) rfl (fun K hK => ?_) AllReadyH.nil
            go_simp
            try (go_wp2_with fail)
            have hHeld' := HST5.out.dk
            refine hK.out _ _ ?_ (fun _ => ?_)
            · exact hHeld'
            clear hK K hHeld
            have hHeld := hHeld'
            clear hHeld'
            try simp only [Act.put, List.setIfInBounds_toArray, List.set_cons_zero, List.set_cons_succ]
            refine wpAnyH_done (by kernel_rfl) ?_ _
            try simp only [Exit.then]
            exact ⟨(HKOE.out.trans (HKO4.out.trans HKO5.out)).from _, fun _ => HST5.out.dk, ⟨_, by rw [List.map_append, List.flatMap_append, ← HE.out]; exact HST5.out, by rw [List.map_append, List.flatMap_append, ← HE.out, List.length_append, List.length_append]; simp [emitL]; omega⟩⟩
      | some rx =>
        obtain ⟨b1, of1, u1, rfl, hbw1, hx1, hy1, hr1⟩ := hp1
        obtain ⟨A5, c5, hu1⟩ : ∃ A c, u1 = .slice A rx.2.length c := by obtain ⟨A, c, h, _⟩ := hr1; exact ⟨A, c, h⟩
        subst hu1
        by_cases hve : rx.2 = ry.2
        · have hveq : (rx.2 == ry.2) = true := by rw [beq_iff_eq]; exact hve
          have HVE := Lib.hid hve
          clear hve
          gi_wp2
          have HSTD := Lib.hid (HST.out.below (Below.refl _ _).drew)
          have hA := HSTD.out.bx.cell
          have HKOD := Lib.hid (HKO.out.trans (KeepsOthers.drew _))
          refine wpIn_region_round (S := DK w (.slice A1 fs.length c1) (.slice A2 ts.length c2)) (by kernel_rfl) (by kernel_rfl) (fun a w h => h) HSTD.out.dk (fun hHeld => ?_)
          generalize X.drew = wd at *
          refine wpAnyH_take (i := 0) (oi := { dst := some 25, op := Op.move (Operand.tmp 6), type := 67, pos := "rows.go:44", after := #[], guard := none }) (v := ?_) rfl (by kernel_rfl) (by kernel_rfl) (by kernel_rfl) (fun _ _ _ h => h.elim) (Or.inl ⟨by rfl, ?_⟩) (by assumption) ?_
          rotate_left
          · intro X hSw; go_simp; try (with_reducible rfl)
          try simp only [Act.put, List.setIfInBounds_toArray, List.set_cons_zero, List.set_cons_succ]
          refine wpAnyH_take (i := 1) (oi := { dst := some 26, op := Op.binOp BinOp.eql 67 (Operand.tmp 25) (Operand.const (Value.pointer none)) 67, type := 4, pos := "rows.go:44", after := #[{ on := 0, ground := Ground.data }], guard := none }) (v := ?_) rfl (by kernel_rfl) (by kernel_rfl) (by kernel_rfl) (fun _ _ _ h => h.elim) (Or.inl ⟨by rfl, ?_⟩) (by assumption) ?_
          rotate_left
          · intro X hSw; go_simp; try (with_reducible rfl)
          try simp only [Act.put, List.setIfInBounds_toArray, List.set_cons_zero, List.set_cons_succ]
          refine wpAnyH_take (i := 2) (oi := { dst := some 27, op := Op.move (Operand.tmp 26), type := 4, pos := "rows.go:44", after := #[{ on := 1, ground := Ground.data }], guard := none }) (v := ?_) rfl (by kernel_rfl) (by kernel_rfl) (by kernel_rfl) (fun _ _ _ h => h.elim) (Or.inl ⟨by rfl, ?_⟩) (by assumption) ?_
          rotate_left
          · intro X hSw; go_simp; try (with_reducible rfl)
          try simp only [Act.put, List.setIfInBounds_toArray, List.set_cons_zero, List.set_cons_succ]
          refine wpAnyH_take (i := 3) (oi := { dst := some 28, op := Op.move (Operand.tmp 6), type := 67, pos := "rows.go:44", after := #[{ on := 2, ground := Ground.guard }], guard := some (2, false) }) (v := ?_) rfl (by kernel_rfl) (by kernel_rfl) (by kernel_rfl) (fun _ _ _ h => h.elim) (Or.inl ⟨by rfl, ?_⟩) (by assumption) ?_
          rotate_left
          · intro X hSw; go_simp; try (with_reducible rfl)
          try simp only [Act.put, List.setIfInBounds_toArray, List.set_cons_zero, List.set_cons_succ]
          refine wpAnyH_take (i := 4) (oi := { dst := some 29, op := Op.nilCheck (Operand.tmp 28), type := 0, pos := "rows.go:44", after := #[{ on := 3, ground := Ground.data }, { on := 2, ground := Ground.guard }], guard := some (2, false) }) (v := ?_) rfl (by kernel_rfl) (by kernel_rfl) (by kernel_rfl) (fun _ _ _ h => h.elim) (Or.inl ⟨by rfl, ?_⟩) (by assumption) ?_
          rotate_left
          · intro X hSw; go_simp; try (with_reducible rfl)
          try simp only [Act.put, List.setIfInBounds_toArray, List.set_cons_zero, List.set_cons_succ]
          refine wpAnyH_take (i := 5) (oi := { dst := some 30, op := Op.fieldAddr 53 (Operand.tmp 29) 1, type := 0, pos := "rows.go:44", after := #[{ on := 4, ground := Ground.data }, { on := 2, ground := Ground.guard }], guard := some (2, false) }) (v := ?_) rfl (by kernel_rfl) (by kernel_rfl) (by kernel_rfl) (fun _ _ _ h => h.elim) (Or.inl ⟨by rfl, ?_⟩) (by assumption) ?_
          rotate_left
          · intro X hSw; go_simp; try (with_reducible rfl)
          try simp only [Act.put, List.setIfInBounds_toArray, List.set_cons_zero, List.set_cons_succ]
          refine wpAnyH_take (i := 6) (oi := { dst := some 31, op := Op.load 23 (Operand.tmp 30), type := 23, pos := "rows.go:44", after := #[{ on := 5, ground := Ground.data }, { on := 2, ground := Ground.guard }], guard := some (2, false) }) (v := ?_) rfl (by kernel_rfl) (by kernel_rfl) (by kernel_rfl) (fun _ _ _ h => h.elim) (Or.inl ⟨by rfl, ?_⟩) (by assumption) ?_
          rotate_left
          · intro X hSw; have hq := (hSw.1.cell (p := ⟨b1, of1 + 1, none⟩) hbw1).trans hy1; go_simp; try (with_reducible rfl)
          try simp only [Act.put, List.setIfInBounds_toArray, List.set_cons_zero, List.set_cons_succ]
          refine wpAnyH_take (i := 7) (oi := { dst := some 32, op := Op.move (Operand.tmp 7), type := 67, pos := "rows.go:44", after := #[{ on := 2, ground := Ground.guard }], guard := some (2, false) }) (v := ?_) rfl (by kernel_rfl) (by kernel_rfl) (by kernel_rfl) (fun _ _ _ h => h.elim) (Or.inl ⟨by rfl, ?_⟩) (by assumption) ?_
          rotate_left
          · intro X hSw; go_simp; try (with_reducible rfl)
          try simp only [Act.put, List.setIfInBounds_toArray, List.set_cons_zero, List.set_cons_succ]
          refine wpAnyH_take (i := 8) (oi := { dst := some 33, op := Op.nilCheck (Operand.tmp 32), type := 0, pos := "rows.go:44", after := #[{ on := 7, ground := Ground.data }, { on := 2, ground := Ground.guard }], guard := some (2, false) }) (v := ?_) rfl (by kernel_rfl) (by kernel_rfl) (by kernel_rfl) (fun _ _ _ h => h.elim) (Or.inl ⟨by rfl, ?_⟩) (by assumption) ?_
          rotate_left
          · intro X hSw; go_simp; try (with_reducible rfl)
          try simp only [Act.put, List.setIfInBounds_toArray, List.set_cons_zero, List.set_cons_succ]
          refine wpAnyH_take (i := 9) (oi := { dst := some 34, op := Op.fieldAddr 53 (Operand.tmp 33) 1, type := 0, pos := "rows.go:44", after := #[{ on := 8, ground := Ground.data }, { on := 2, ground := Ground.guard }], guard := some (2, false) }) (v := ?_) rfl (by kernel_rfl) (by kernel_rfl) (by kernel_rfl) (fun _ _ _ h => h.elim) (Or.inl ⟨by rfl, ?_⟩) (by assumption) ?_
          rotate_left
          · intro X hSw; go_simp; try (with_reducible rfl)
          try simp only [Act.put, List.setIfInBounds_toArray, List.set_cons_zero, List.set_cons_succ]
          refine wpAnyH_take (i := 10) (oi := { dst := some 35, op := Op.load 23 (Operand.tmp 34), type := 23, pos := "rows.go:44", after := #[{ on := 9, ground := Ground.data }, { on := 2, ground := Ground.guard }], guard := some (2, false) }) (v := ?_) rfl (by kernel_rfl) (by kernel_rfl) (by kernel_rfl) (fun _ _ _ h => h.elim) (Or.inl ⟨by rfl, ?_⟩) (by assumption) ?_
          rotate_left
          · intro X hSw; have hq := (hSw.1.cell (p := ⟨b2, of2 + 1, none⟩) hbw2).trans hy2; go_simp; try (with_reducible rfl)
          try simp only [Act.put, List.setIfInBounds_toArray, List.set_cons_zero, List.set_cons_succ]
          refine wpAnyH_ready (rs := [11]) (by kernel_rfl) (by simp) ?_
          refine AllReadyH.cons (o := { dst := some 36, op := Op.call { callee := Callee.value (Operand.func 40), args := #[Operand.tmp 31, Operand.tmp 35], argTypes := #[23, 23] }, type := 4, pos := "rows.go:44", after := #[{ on := 6, ground := Ground.data }, { on := 10, ground := Ground.data }, { on := 2, ground := Ground.chain }, { on := 2, ground := Ground.guard }], guard := some (2, false) }) rfl (fun K hK => ?_) AllReadyH.nil
          go_simp
          refine (equal_any _ _ rx.2 ry.2 _ (hr1.below hHeld.1) (hr2.below hHeld.1)).mono ?_
          rintro e w' ⟨rfl, rfl⟩
          rw [hveq]
          try (go_wp2_with fail)
          refine hK.out _ _ ?_ (fun _ => ?_)
          · exact hHeld
          clear hK K
          try simp only [Act.put, List.setIfInBounds_toArray, List.set_cons_zero, List.set_cons_succ]
          refine wpAnyH_take (i := 12) (oi := { dst := some 37, op := Op.unOp UnOp.not 4 (Operand.tmp 36), type := 4, pos := "rows.go:44", after := #[{ on := 11, ground := Ground.data }, { on := 2, ground := Ground.guard }], guard := some (2, false) }) (v := ?_) rfl (by kernel_rfl) (by kernel_rfl) (by kernel_rfl) (fun _ _ _ h => h.elim) (Or.inl ⟨by rfl, ?_⟩) (by assumption) ?_
          rotate_left
          · intro X hSw; go_simp; try (with_reducible rfl)
          try simp only [Act.put, List.setIfInBounds_toArray, List.set_cons_zero, List.set_cons_succ]
          refine wpAnyH_take (i := 13) (oi := { dst := some 38, op := Op.pick (Operand.tmp 27) (Operand.const (Value.bool true)) (Operand.tmp 37), type := 4, pos := "rows.go:44", after := #[{ on := 2, ground := Ground.data }, { on := 12, ground := Ground.data }], guard := none }) (v := ?_) rfl (by kernel_rfl) (by kernel_rfl) (by kernel_rfl) (fun _ _ _ h => h.elim) (Or.inl ⟨by rfl, ?_⟩) (by assumption) ?_
          rotate_left
          · intro X hSw; go_simp; try (with_reducible rfl)
          try simp only [Act.put, List.setIfInBounds_toArray, List.set_cons_zero, List.set_cons_succ]
          refine wpAnyH_take (i := 14) (oi := { dst := some 24, op := Op.assign (Operand.tmp 38), type := 4, pos := "rows.go:44", after := #[{ on := 13, ground := Ground.data }, { on := 11, ground := Ground.chain }], guard := none }) (v := ?_) rfl (by kernel_rfl) (by kernel_rfl) (by kernel_rfl) (fun _ _ _ h => h.elim) (Or.inl ⟨by rfl, ?_⟩) (by assumption) ?_
          rotate_left
          · intro X hSw; go_simp; try (with_reducible rfl)
          try simp only [Act.put, List.setIfInBounds_toArray, List.set_cons_zero, List.set_cons_succ]
          refine wpAnyH_done (by kernel_rfl) ?_ _
          simp only [Exit.then]
          gi_wp2
          exact ⟨HKOD.out.from _, fun _ => HSTD.out.dk, ⟨_, by rw [List.map_append, List.flatMap_append, ← HE.out]; simp only [List.map_cons, List.map_nil, List.flatMap_cons, List.flatMap_nil, emitL, if_pos HVE.out, List.append_nil]; exact HSTD.out, by rw [List.map_append, List.flatMap_append, ← HE.out, List.length_append, List.length_append]; simp [emitL, HVE.out]; omega⟩⟩
        · have hveq : (rx.2 == ry.2) = false := by rw [beq_eq_false_iff_ne]; exact hve
          have HVE := Lib.hid hve
          clear hve
          gi_wp2
          have HSTD := Lib.hid (HST.out.below (Below.refl _ _).drew)
          have hA := HSTD.out.bx.cell
          have HKOD := Lib.hid (HKO.out.trans (KeepsOthers.drew _))
          refine wpIn_region_round (S := DK w (.slice A1 fs.length c1) (.slice A2 ts.length c2)) (by kernel_rfl) (by kernel_rfl) (fun a w h => h) HSTD.out.dk (fun hHeld => ?_)
          generalize X.drew = wd at *
          refine wpAnyH_take (i := 0) (oi := { dst := some 25, op := Op.move (Operand.tmp 6), type := 67, pos := "rows.go:44", after := #[], guard := none }) (v := ?_) rfl (by kernel_rfl) (by kernel_rfl) (by kernel_rfl) (fun _ _ _ h => h.elim) (Or.inl ⟨by rfl, ?_⟩) (by assumption) ?_
          rotate_left
          · intro X hSw; go_simp; try (with_reducible rfl)
          try simp only [Act.put, List.setIfInBounds_toArray, List.set_cons_zero, List.set_cons_succ]
          refine wpAnyH_take (i := 1) (oi := { dst := some 26, op := Op.binOp BinOp.eql 67 (Operand.tmp 25) (Operand.const (Value.pointer none)) 67, type := 4, pos := "rows.go:44", after := #[{ on := 0, ground := Ground.data }], guard := none }) (v := ?_) rfl (by kernel_rfl) (by kernel_rfl) (by kernel_rfl) (fun _ _ _ h => h.elim) (Or.inl ⟨by rfl, ?_⟩) (by assumption) ?_
          rotate_left
          · intro X hSw; go_simp; try (with_reducible rfl)
          try simp only [Act.put, List.setIfInBounds_toArray, List.set_cons_zero, List.set_cons_succ]
          refine wpAnyH_take (i := 2) (oi := { dst := some 27, op := Op.move (Operand.tmp 26), type := 4, pos := "rows.go:44", after := #[{ on := 1, ground := Ground.data }], guard := none }) (v := ?_) rfl (by kernel_rfl) (by kernel_rfl) (by kernel_rfl) (fun _ _ _ h => h.elim) (Or.inl ⟨by rfl, ?_⟩) (by assumption) ?_
          rotate_left
          · intro X hSw; go_simp; try (with_reducible rfl)
          try simp only [Act.put, List.setIfInBounds_toArray, List.set_cons_zero, List.set_cons_succ]
          refine wpAnyH_take (i := 3) (oi := { dst := some 28, op := Op.move (Operand.tmp 6), type := 67, pos := "rows.go:44", after := #[{ on := 2, ground := Ground.guard }], guard := some (2, false) }) (v := ?_) rfl (by kernel_rfl) (by kernel_rfl) (by kernel_rfl) (fun _ _ _ h => h.elim) (Or.inl ⟨by rfl, ?_⟩) (by assumption) ?_
          rotate_left
          · intro X hSw; go_simp; try (with_reducible rfl)
          try simp only [Act.put, List.setIfInBounds_toArray, List.set_cons_zero, List.set_cons_succ]
          refine wpAnyH_take (i := 4) (oi := { dst := some 29, op := Op.nilCheck (Operand.tmp 28), type := 0, pos := "rows.go:44", after := #[{ on := 3, ground := Ground.data }, { on := 2, ground := Ground.guard }], guard := some (2, false) }) (v := ?_) rfl (by kernel_rfl) (by kernel_rfl) (by kernel_rfl) (fun _ _ _ h => h.elim) (Or.inl ⟨by rfl, ?_⟩) (by assumption) ?_
          rotate_left
          · intro X hSw; go_simp; try (with_reducible rfl)
          try simp only [Act.put, List.setIfInBounds_toArray, List.set_cons_zero, List.set_cons_succ]
          refine wpAnyH_take (i := 5) (oi := { dst := some 30, op := Op.fieldAddr 53 (Operand.tmp 29) 1, type := 0, pos := "rows.go:44", after := #[{ on := 4, ground := Ground.data }, { on := 2, ground := Ground.guard }], guard := some (2, false) }) (v := ?_) rfl (by kernel_rfl) (by kernel_rfl) (by kernel_rfl) (fun _ _ _ h => h.elim) (Or.inl ⟨by rfl, ?_⟩) (by assumption) ?_
          rotate_left
          · intro X hSw; go_simp; try (with_reducible rfl)
          try simp only [Act.put, List.setIfInBounds_toArray, List.set_cons_zero, List.set_cons_succ]
          refine wpAnyH_take (i := 6) (oi := { dst := some 31, op := Op.load 23 (Operand.tmp 30), type := 23, pos := "rows.go:44", after := #[{ on := 5, ground := Ground.data }, { on := 2, ground := Ground.guard }], guard := some (2, false) }) (v := ?_) rfl (by kernel_rfl) (by kernel_rfl) (by kernel_rfl) (fun _ _ _ h => h.elim) (Or.inl ⟨by rfl, ?_⟩) (by assumption) ?_
          rotate_left
          · intro X hSw; have hq := (hSw.1.cell (p := ⟨b1, of1 + 1, none⟩) hbw1).trans hy1; go_simp; try (with_reducible rfl)
          try simp only [Act.put, List.setIfInBounds_toArray, List.set_cons_zero, List.set_cons_succ]
          refine wpAnyH_take (i := 7) (oi := { dst := some 32, op := Op.move (Operand.tmp 7), type := 67, pos := "rows.go:44", after := #[{ on := 2, ground := Ground.guard }], guard := some (2, false) }) (v := ?_) rfl (by kernel_rfl) (by kernel_rfl) (by kernel_rfl) (fun _ _ _ h => h.elim) (Or.inl ⟨by rfl, ?_⟩) (by assumption) ?_
          rotate_left
          · intro X hSw; go_simp; try (with_reducible rfl)
          try simp only [Act.put, List.setIfInBounds_toArray, List.set_cons_zero, List.set_cons_succ]
          refine wpAnyH_take (i := 8) (oi := { dst := some 33, op := Op.nilCheck (Operand.tmp 32), type := 0, pos := "rows.go:44", after := #[{ on := 7, ground := Ground.data }, { on := 2, ground := Ground.guard }], guard := some (2, false) }) (v := ?_) rfl (by kernel_rfl) (by kernel_rfl) (by kernel_rfl) (fun _ _ _ h => h.elim) (Or.inl ⟨by rfl, ?_⟩) (by assumption) ?_
          rotate_left
          · intro X hSw; go_simp; try (with_reducible rfl)
          try simp only [Act.put, List.setIfInBounds_toArray, List.set_cons_zero, List.set_cons_succ]
          refine wpAnyH_take (i := 9) (oi := { dst := some 34, op := Op.fieldAddr 53 (Operand.tmp 33) 1, type := 0, pos := "rows.go:44", after := #[{ on := 8, ground := Ground.data }, { on := 2, ground := Ground.guard }], guard := some (2, false) }) (v := ?_) rfl (by kernel_rfl) (by kernel_rfl) (by kernel_rfl) (fun _ _ _ h => h.elim) (Or.inl ⟨by rfl, ?_⟩) (by assumption) ?_
          rotate_left
          · intro X hSw; go_simp; try (with_reducible rfl)
          try simp only [Act.put, List.setIfInBounds_toArray, List.set_cons_zero, List.set_cons_succ]
          refine wpAnyH_take (i := 10) (oi := { dst := some 35, op := Op.load 23 (Operand.tmp 34), type := 23, pos := "rows.go:44", after := #[{ on := 9, ground := Ground.data }, { on := 2, ground := Ground.guard }], guard := some (2, false) }) (v := ?_) rfl (by kernel_rfl) (by kernel_rfl) (by kernel_rfl) (fun _ _ _ h => h.elim) (Or.inl ⟨by rfl, ?_⟩) (by assumption) ?_
          rotate_left
          · intro X hSw; have hq := (hSw.1.cell (p := ⟨b2, of2 + 1, none⟩) hbw2).trans hy2; go_simp; try (with_reducible rfl)
          try simp only [Act.put, List.setIfInBounds_toArray, List.set_cons_zero, List.set_cons_succ]
          refine wpAnyH_ready (rs := [11]) (by kernel_rfl) (by simp) ?_
          refine AllReadyH.cons (o := { dst := some 36, op := Op.call { callee := Callee.value (Operand.func 40), args := #[Operand.tmp 31, Operand.tmp 35], argTypes := #[23, 23] }, type := 4, pos := "rows.go:44", after := #[{ on := 6, ground := Ground.data }, { on := 10, ground := Ground.data }, { on := 2, ground := Ground.chain }, { on := 2, ground := Ground.guard }], guard := some (2, false) }) rfl (fun K hK => ?_) AllReadyH.nil
          go_simp
          refine (equal_any _ _ rx.2 ry.2 _ (hr1.below hHeld.1) (hr2.below hHeld.1)).mono ?_
          rintro e w' ⟨rfl, rfl⟩
          rw [hveq]
          try (go_wp2_with fail)
          refine hK.out _ _ ?_ (fun _ => ?_)
          · exact hHeld
          clear hK K
          try simp only [Act.put, List.setIfInBounds_toArray, List.set_cons_zero, List.set_cons_succ]
          refine wpAnyH_take (i := 12) (oi := { dst := some 37, op := Op.unOp UnOp.not 4 (Operand.tmp 36), type := 4, pos := "rows.go:44", after := #[{ on := 11, ground := Ground.data }, { on := 2, ground := Ground.guard }], guard := some (2, false) }) (v := ?_) rfl (by kernel_rfl) (by kernel_rfl) (by kernel_rfl) (fun _ _ _ h => h.elim) (Or.inl ⟨by rfl, ?_⟩) (by assumption) ?_
          rotate_left
          · intro X hSw; go_simp; try (with_reducible rfl)
          try simp only [Act.put, List.setIfInBounds_toArray, List.set_cons_zero, List.set_cons_succ]
          refine wpAnyH_take (i := 13) (oi := { dst := some 38, op := Op.pick (Operand.tmp 27) (Operand.const (Value.bool true)) (Operand.tmp 37), type := 4, pos := "rows.go:44", after := #[{ on := 2, ground := Ground.data }, { on := 12, ground := Ground.data }], guard := none }) (v := ?_) rfl (by kernel_rfl) (by kernel_rfl) (by kernel_rfl) (fun _ _ _ h => h.elim) (Or.inl ⟨by rfl, ?_⟩) (by assumption) ?_
          rotate_left
          · intro X hSw; go_simp; try (with_reducible rfl)
          try simp only [Act.put, List.setIfInBounds_toArray, List.set_cons_zero, List.set_cons_succ]
          refine wpAnyH_take (i := 14) (oi := { dst := some 24, op := Op.assign (Operand.tmp 38), type := 4, pos := "rows.go:44", after := #[{ on := 13, ground := Ground.data }, { on := 11, ground := Ground.chain }], guard := none }) (v := ?_) rfl (by kernel_rfl) (by kernel_rfl) (by kernel_rfl) (fun _ _ _ h => h.elim) (Or.inl ⟨by rfl, ?_⟩) (by assumption) ?_
          rotate_left
          · intro X hSw; go_simp; try (with_reducible rfl)
          try simp only [Act.put, List.setIfInBounds_toArray, List.set_cons_zero, List.set_cons_succ]
          refine wpAnyH_done (by kernel_rfl) ?_ _
          simp only [Exit.then]
          gi_wp2
          have HSTE := Lib.hid (HSTD.out.below (Below.refl _ _).drew)
          have hA := HSTE.out.bx.cell
          have HKOE := Lib.hid (HKOD.out.trans (KeepsOthers.drew _))
          refine wpIn_region_round (S := DK w (.slice A1 fs.length c1) (.slice A2 ts.length c2)) (by kernel_rfl) (by kernel_rfl) (fun a w h => h) HSTE.out.dk (fun hHeld => ?_)
          generalize wd.drew = we at *
          refine wpAnyH_take (i := 1) (oi := { dst := some 40, op := Op.move (Operand.tmp 7), type := 67, pos := "rows.go:45", after := #[], guard := none }) (v := ?_) rfl (by kernel_rfl) (by kernel_rfl) (by kernel_rfl) (fun _ _ _ h => h.elim) (Or.inl ⟨by rfl, ?_⟩) (by assumption) ?_
          rotate_left
          · intro X hSw; go_simp; try (with_reducible rfl)
          try simp only [Act.put, List.setIfInBounds_toArray, List.set_cons_zero, List.set_cons_succ]
          refine wpAnyH_take (i := 2) (oi := { dst := some 41, op := Op.nilCheck (Operand.tmp 40), type := 0, pos := "rows.go:45", after := #[{ on := 1, ground := Ground.data }], guard := none }) (v := ?_) rfl (by kernel_rfl) (by kernel_rfl) (by kernel_rfl) (fun _ _ _ h => h.elim) (Or.inl ⟨by rfl, ?_⟩) (by assumption) ?_
          rotate_left
          · intro X hSw; go_simp; try (with_reducible rfl)
          try simp only [Act.put, List.setIfInBounds_toArray, List.set_cons_zero, List.set_cons_succ]
          refine wpAnyH_take (i := 3) (oi := { dst := some 42, op := Op.fieldAddr 53 (Operand.tmp 41) 0, type := 0, pos := "rows.go:45", after := #[{ on := 2, ground := Ground.data }], guard := none }) (v := ?_) rfl (by kernel_rfl) (by kernel_rfl) (by kernel_rfl) (fun _ _ _ h => h.elim) (Or.inl ⟨by rfl, ?_⟩) (by assumption) ?_
          rotate_left
          · intro X hSw; go_simp; try (with_reducible rfl)
          try simp only [Act.put, List.setIfInBounds_toArray, List.set_cons_zero, List.set_cons_succ]
          refine wpAnyH_take (i := 4) (oi := { dst := some 43, op := Op.load 9 (Operand.tmp 42), type := 9, pos := "rows.go:45", after := #[{ on := 3, ground := Ground.data }], guard := none }) (v := ?_) rfl (by kernel_rfl) (by kernel_rfl) (by kernel_rfl) (fun _ _ _ h => h.elim) (Or.inl ⟨by rfl, ?_⟩) (by assumption) ?_
          rotate_left
          · intro X hSw; have hq := (hSw.1.cell (p := ⟨b2, of2, none⟩) hbw2).trans hx2; go_simp; try (with_reducible rfl)
          try simp only [Act.put, List.setIfInBounds_toArray, List.set_cons_zero, List.set_cons_succ]
          refine wpAnyH_take (i := 5) (oi := { dst := some 44, op := Op.move (Operand.tmp 7), type := 67, pos := "rows.go:45", after := #[], guard := none }) (v := ?_) rfl (by kernel_rfl) (by kernel_rfl) (by kernel_rfl) (fun _ _ _ h => h.elim) (Or.inl ⟨by rfl, ?_⟩) (by assumption) ?_
          rotate_left
          · intro X hSw; go_simp; try (with_reducible rfl)
          try simp only [Act.put, List.setIfInBounds_toArray, List.set_cons_zero, List.set_cons_succ]
          refine wpAnyH_take (i := 6) (oi := { dst := some 45, op := Op.nilCheck (Operand.tmp 44), type := 0, pos := "rows.go:45", after := #[{ on := 5, ground := Ground.data }], guard := none }) (v := ?_) rfl (by kernel_rfl) (by kernel_rfl) (by kernel_rfl) (fun _ _ _ h => h.elim) (Or.inl ⟨by rfl, ?_⟩) (by assumption) ?_
          rotate_left
          · intro X hSw; go_simp; try (with_reducible rfl)
          try simp only [Act.put, List.setIfInBounds_toArray, List.set_cons_zero, List.set_cons_succ]
          refine wpAnyH_take (i := 7) (oi := { dst := some 46, op := Op.fieldAddr 53 (Operand.tmp 45) 1, type := 0, pos := "rows.go:45", after := #[{ on := 6, ground := Ground.data }], guard := none }) (v := ?_) rfl (by kernel_rfl) (by kernel_rfl) (by kernel_rfl) (fun _ _ _ h => h.elim) (Or.inl ⟨by rfl, ?_⟩) (by assumption) ?_
          rotate_left
          · intro X hSw; go_simp; try (with_reducible rfl)
          try simp only [Act.put, List.setIfInBounds_toArray, List.set_cons_zero, List.set_cons_succ]
          refine wpAnyH_take (i := 8) (oi := { dst := some 47, op := Op.load 23 (Operand.tmp 46), type := 23, pos := "rows.go:45", after := #[{ on := 7, ground := Ground.data }], guard := none }) (v := ?_) rfl (by kernel_rfl) (by kernel_rfl) (by kernel_rfl) (fun _ _ _ h => h.elim) (Or.inl ⟨by rfl, ?_⟩) (by assumption) ?_
          rotate_left
          · intro X hSw; have hq := (hSw.1.cell (p := ⟨b2, of2 + 1, none⟩) hbw2).trans hy2; go_simp; try (with_reducible rfl)
          try simp only [Act.put, List.setIfInBounds_toArray, List.set_cons_zero, List.set_cons_succ]
          refine wpAnyH_ready (rs := [0, 9]) (by kernel_rfl) (by simp) ?_
          refine AllReadyH.cons (o := { dst := some 39, op := Op.load 22 (Operand.tmp 5), type := 22, pos := "rows.go:45", after := #[], guard := none }) rfl (fun K hK => ?_) (AllReadyH.cons (o := { dst := some 48, op := Op.call { callee := Callee.value (Operand.func 41), args := #[Operand.tmp 47], argTypes := #[23] }, type := 23, pos := "rows.go:45", after := #[{ on := 8, ground := Ground.data }], guard := none }) rfl (fun K hK => ?_) AllReadyH.nil)
          · go_simp
            try (go_wp2_with fail)
            refine hK.out _ _ ?_ (fun _ => ?_)
            · exact hHeld
            clear hK K
            try simp only [Act.put, List.setIfInBounds_toArray, List.set_cons_zero, List.set_cons_succ]
            refine wpAnyH_ready (rs := [9]) (by kernel_rfl) (by simp) ?_
            refine AllReadyH.cons (o := { dst := some 48, op := Op.call { callee := Callee.value (Operand.func 41), args := #[Operand.tmp 47], argTypes := #[23] }, type := 23, pos := "rows.go:45", after := #[{ on := 8, ground := Ground.data }], guard := none }) rfl (fun K hK => ?_) AllReadyH.nil
            go_simp
            refine (cloneB_any _ ry.2 _ (hr2.below hHeld.1) (hvl ry rfl)).mono ?_
            rintro e w4 ⟨u4, rfl, hfb4, hb4⟩
            obtain ⟨A4, c4, rfl⟩ := hfb4.shape
            have HST4 := Lib.hid (HSTE.out.below hb4)
            have hA := HST4.out.bx.cell
            have HF4 := Lib.hid (hfb4.base_ (base' := w.heap.size) HSTE.out.dk.1.size)
            have HKO4 := Lib.hid (KeepsOthers.of_grownBy (grown_none hb4) (fun _ _ h => (by cases h)))
            try (go_wp2_with fail)
            have hHeld' := hHeld.below hb4
            refine hK.out _ _ ?_ (fun _ => ?_)
            · exact hHeld'
            clear hK K hHeld
            have hHeld := hHeld'
            clear hHeld'
            try simp only [Act.put, List.setIfInBounds_toArray, List.set_cons_zero, List.set_cons_succ]
            refine wpAnyH_take (i := 10) (oi := { dst := some 49, op := Op.build 51 #[(0, Operand.tmp 43), (1, Operand.tmp 48)], type := 51, pos := "rows.go:45", after := #[{ on := 4, ground := Ground.data }, { on := 9, ground := Ground.data }], guard := none }) (v := ?_) rfl (by kernel_rfl) (by kernel_rfl) (by kernel_rfl) (fun _ _ _ h => h.elim) (Or.inl ⟨by rfl, ?_⟩) (by assumption) ?_
            rotate_left
            · intro X hSw; go_simp; try (with_reducible rfl)
            try simp only [Act.put, List.setIfInBounds_toArray, List.set_cons_zero, List.set_cons_succ]
            refine wpAnyH_ready (rs := [11]) (by kernel_rfl) (by simp) ?_
            refine AllReadyH.cons (o := { dst := some 50, op := Op.buildSlice 22 1 #[(0, Operand.tmp 49)], type := 22, pos := "rows.go:45", after := #[{ on := 10, ground := Ground.data }], guard := none }) rfl (fun K hK => ?_) AllReadyH.nil
            go_simp
            have hb6 := (Below.refl w4.heap.size w4).alloc (Nat.le_refl _) (Obj.cells #[.string ry.1, .slice A4 ry.2.length c4, .bool false] 51)
            have hA := (HST4.out.below hb6).bx.cell
            try (go_wp2_with fail)
            have hHeld' := hHeld.below hb6
            refine hK.out _ _ ?_ (fun _ => ?_)
            · exact hHeld'
            clear hK K hHeld
            have hHeld := hHeld'
            clear hHeld'
            try simp only [Act.put, List.setIfInBounds_toArray, List.set_cons_zero, List.set_cons_succ]
            refine wpAnyH_ready (rs := [12]) (by kernel_rfl) (by simp) ?_
            refine AllReadyH.cons (o := { dst := some 51, op := Op.call { callee := Callee.builtin Builtin.append, args := #[Operand.tmp 39, Operand.tmp 50], argTypes := #[22, 22] }, type := 22, pos := "rows.go:45", after := #[{ on := 0, ground := Ground.data }, { on := 11, ground := Ground.data }, { on := 9, ground := Ground.chain }], guard := none }) rfl (fun K hK => ?_) AllReadyH.nil
            obtain ⟨us, hus, ho, hf⟩ := HST4.out.oc
            have HUL := Lib.hid (show us.length ≤ 3000000 by have h := congrArg List.length hus; rw [List.length_map] at h; rw [h]; exact HLN.out)
            have hoA := own_below ho hb6
            have hss := HST4.out.dk.1.size
            refine step_own rfl (.tmp 39) (.tmp 50) 22 22 rfl w.heap.size 51 (.agg #[.string ⟨#[]⟩, .slice none 0 0, .bool false]) 3 48 Try.underlying22 info51 rfl rfl hoA rfl (src_three _ rfl Try.underlying22 51 _ _ _ rfl rfl rfl) (Below.refl w.heap.size _) (Nat.le_refl _) ?_ ?_ ?_ ?_
            · have := HUL.out; unfold maxLen; omega
            · have := HUL.out; omega
            · simp; omega
            intro v5 w5 ho5 hb5 hg5
            obtain ⟨g5, c5, rfl⟩ := ownsRow_succ ho5
            obtain ⟨hbx, hdk5, hst5, hko5, hbe5⟩ := HST4.out.push hus ho hf HF4.out ho5 hg5
            have hc5 := hbx.cell
            have hf5 := hbx.frozen
            have HST5 := Lib.hid hst5
            have HKO5 := Lib.hid hko5
            clear hst5 hko5 hbe5 hus ho hf hoA ho5 hb5 hg5
            have hHeld' := hdk5
            refine hK.out _ _ ?_ (fun _ => ?_)
            · exact hHeld'
            clear hK K hHeld
            have hHeld := hHeld'
            clear hHeld'
            try simp only [Act.put, List.setIfInBounds_toArray, List.set_cons_zero, List.set_cons_succ]
            refine wpAnyH_ready (rs := [13]) (by kernel_rfl) (by simp) ?_
            refine AllReadyH.cons (o := { dst := none, op := Op.store 22 (Operand.tmp 5) (Operand.tmp 51), type := 0, pos := "rows.go:45", after := #[{ on := 12, ground := Ground.data }, { on := 12, ground := Ground.chain }, { on := 0, ground := Ground.phase }, { on := 1, ground := Ground.phase }, { on := 2, ground := Ground.phase }, { on := 3, ground := Ground.phase }, { on := 4, ground := Ground.phase }, { on := 5, ground := Ground.phase }, { on := 6, ground := Ground.phase }, { on := 7, ground := Ground.phase }, { on := 8, ground := Ground.phase }, { on := 9, ground := Ground.phase }, { on := 10, ground := Ground.phase }, { on := 11, ground := Ground.phase }, { on := 12, ground := Ground.phase }], guard := none }) rfl (fun K hK => ?_) AllReadyH.nil
            go_simp
            try (go_wp2_with fail)
            have hHeld' := HST5.out.dk
            refine hK.out _ _ ?_ (fun _ => ?_)
            · exact hHeld'
            clear hK K hHeld
            have hHeld := hHeld'
            clear hHeld'
            try simp only [Act.put, List.setIfInBounds_toArray, List.set_cons_zero, List.set_cons_succ]
            refine wpAnyH_done (by kernel_rfl) ?_ _
            try simp only [Exit.then]
            exact ⟨(HKOE.out.trans (HKO4.out.trans HKO5.out)).from _, fun _ => HST5.out.dk, ⟨_, by rw [List.map_append, List.flatMap_append, ← HE.out]; simp only [List.map_cons, List.map_nil, List.flatMap_cons, List.flatMap_nil, emitL, if_neg HVE.out, List.append_nil]; exact HST5.out, by rw [List.map_append, List.flatMap_append, ← HE.out, List.length_append, List.length_append]; simp [emitL, HVE.out]; omega⟩⟩
          · go_simp
            refine (cloneB_any _ ry.2 _ (hr2.below hHeld.1) (hvl ry rfl)).mono ?_
            rintro e w4 ⟨u4, rfl, hfb4, hb4⟩
            obtain ⟨A4, c4, rfl⟩ := hfb4.shape
            have HST4 := Lib.hid (HSTE.out.below hb4)
            have hA := HST4.out.bx.cell
            have HF4 := Lib.hid (hfb4.base_ (base' := w.heap.size) HSTE.out.dk.1.size)
            have HKO4 := Lib.hid (KeepsOthers.of_grownBy (grown_none hb4) (fun _ _ h => (by cases h)))
            try (go_wp2_with fail)
            have hHeld' := hHeld.below hb4
            refine hK.out _ _ ?_ (fun _ => ?_)
            · exact hHeld'
            clear hK K hHeld
            have hHeld := hHeld'
            clear hHeld'
            try simp only [Act.put, List.setIfInBounds_toArray, List.set_cons_zero, List.set_cons_succ]
            refine wpAnyH_take (i := 10) (oi := { dst := some 49, op := Op.build 51 #[(0, Operand.tmp 43), (1, Operand.tmp 48)], type := 51, pos := "rows.go:45", after := #[{ on := 4, ground := Ground.data }, { on := 9, ground := Ground.data }], guard := none }) (v := ?_) rfl (by kernel_rfl) (by kernel_rfl) (by kernel_rfl) (fun _ _ _ h => h.elim) (Or.inl ⟨by rfl, ?_⟩) (by assumption) ?_
            rotate_left
            · intro X hSw; go_simp; try (with_reducible rfl)
            try simp only [Act.put, List.setIfInBounds_toArray, List.set_cons_zero, List.set_cons_succ]
            refine wpAnyH_ready (rs := [0, 11]) (by kernel_rfl) (by simp) ?_
            refine AllReadyH.cons (o := { dst := some 39, op := Op.load 22 (Operand.tmp 5), type := 22, pos := "rows.go:45", after := #[], guard := none }) rfl (fun K hK => ?_) (AllReadyH.cons (o := { dst := some 50, op := Op.buildSlice 22 1 #[(0, Operand.tmp 49)], type := 22, pos := "rows.go:45", after := #[{ on := 10, ground := Ground.data }], guard := none }) rfl (fun K hK => ?_) AllReadyH.nil)
            · go_simp
              try (go_wp2_with fail)
              refine hK.out _ _ ?_ (fun _ => ?_)
              · exact hHeld
              clear hK K
              try simp only [Act.put, List.setIfInBounds_toArray, List.set_cons_zero, List.set_cons_succ]
              refine wpAnyH_ready (rs := [11]) (by kernel_rfl) (by simp) ?_
              refine AllReadyH.cons (o := { dst := some 50, op := Op.buildSlice 22 1 #[(0, Operand.tmp 49)], type := 22, pos := "rows.go:45", after := #[{ on := 10, ground := Ground.data }], guard := none }) rfl (fun K hK => ?_) AllReadyH.nil
              go_simp
              have hb6 := (Below.refl w4.heap.size w4).alloc (Nat.le_refl _) (Obj.cells #[.string ry.1, .slice A4 ry.2.length c4, .bool false] 51)
              have hA := (HST4.out.below hb6).bx.cell
              try (go_wp2_with fail)
              have hHeld' := hHeld.below hb6
              refine hK.out _ _ ?_ (fun _ => ?_)
              · exact hHeld'
              clear hK K hHeld
              have hHeld := hHeld'
              clear hHeld'
              try simp only [Act.put, List.setIfInBounds_toArray, List.set_cons_zero, List.set_cons_succ]
              refine wpAnyH_ready (rs := [12]) (by kernel_rfl) (by simp) ?_
              refine AllReadyH.cons (o := { dst := some 51, op := Op.call { callee := Callee.builtin Builtin.append, args := #[Operand.tmp 39, Operand.tmp 50], argTypes := #[22, 22] }, type := 22, pos := "rows.go:45", after := #[{ on := 0, ground := Ground.data }, { on := 11, ground := Ground.data }, { on := 9, ground := Ground.chain }], guard := none }) rfl (fun K hK => ?_) AllReadyH.nil
              obtain ⟨us, hus, ho, hf⟩ := HST4.out.oc
              have HUL := Lib.hid (show us.length ≤ 3000000 by have h := congrArg List.length hus; rw [List.length_map] at h; rw [h]; exact HLN.out)
              have hoA := own_below ho hb6
              have hss := HST4.out.dk.1.size
              refine step_own rfl (.tmp 39) (.tmp 50) 22 22 rfl w.heap.size 51 (.agg #[.string ⟨#[]⟩, .slice none 0 0, .bool false]) 3 48 Try.underlying22 info51 rfl rfl hoA rfl (src_three _ rfl Try.underlying22 51 _ _ _ rfl rfl rfl) (Below.refl w.heap.size _) (Nat.le_refl _) ?_ ?_ ?_ ?_
              · have := HUL.out; unfold maxLen; omega
              · have := HUL.out; omega
              · simp; omega
              intro v5 w5 ho5 hb5 hg5
              obtain ⟨g5, c5, rfl⟩ := ownsRow_succ ho5
              obtain ⟨hbx, hdk5, hst5, hko5, hbe5⟩ := HST4.out.push hus ho hf HF4.out ho5 hg5
              have hc5 := hbx.cell
              have hf5 := hbx.frozen
              have HST5 := Lib.hid hst5
              have HKO5 := Lib.hid hko5
              clear hst5 hko5 hbe5 hus ho hf hoA ho5 hb5 hg5
              have hHeld' := hdk5
              refine hK.out _ _ ?_ (fun _ => ?_)
              · exact hHeld'
              clear hK K hHeld
              have hHeld := hHeld'
              clear hHeld'
              try simp only [Act.put, List.setIfInBounds_toArray, List.set_cons_zero, List.set_cons_succ]
              refine wpAnyH_ready (rs := [13]) (by kernel_rfl) (by simp) ?_
              refine AllReadyH.cons (o := { dst := none, op := Op.store 22 (Operand.tmp 5) (Operand.tmp 51), type := 0, pos := "rows.go:45", after := #[{ on := 12, ground := Ground.data }, { on := 12, ground := Ground.chain }, { on := 0, ground := Ground.phase }, { on := 1, ground := Ground.phase }, { on := 2, ground := Ground.phase }, { on := 3, ground := Ground.phase }, { on := 4, ground := Ground.phase }, { on := 5, ground := Ground.phase }, { on := 6, ground := Ground.phase }, { on := 7, ground := Ground.phase }, { on := 8, ground := Ground.phase }, { on := 9, ground := Ground.phase }, { on := 10, ground := Ground.phase }, { on := 11, ground := Ground.phase }, { on := 12, ground := Ground.phase }], guard := none }) rfl (fun K hK => ?_) AllReadyH.nil
              go_simp
              try (go_wp2_with fail)
              have hHeld' := HST5.out.dk
              refine hK.out _ _ ?_ (fun _ => ?_)
              · exact hHeld'
              clear hK K hHeld
              have hHeld := hHeld'
              clear hHeld'
              try simp only [Act.put, List.setIfInBounds_toArray, List.set_cons_zero, List.set_cons_succ]
              refine wpAnyH_done (by kernel_rfl) ?_ _
              try simp only [Exit.then]
              exact ⟨(HKOE.out.trans (HKO4.out.trans HKO5.out)).from _, fun _ => HST5.out.dk, ⟨_, by rw [List.map_append, List.flatMap_append, ← HE.out]; simp only [List.map_cons, List.map_nil, List.flatMap_cons, List.flatMap_nil, emitL, if_neg HVE.out, List.append_nil]; exact HST5.out, by rw [List.map_append, List.flatMap_append, ← HE.out, List.length_append, List.length_append]; simp [emitL, HVE.out]; omega⟩⟩
            · go_simp
              have hb6 := (Below.refl w4.heap.size w4).alloc (Nat.le_refl _) (Obj.cells #[.string ry.1, .slice A4 ry.2.length c4, .bool false] 51)
              have hA := (HST4.out.below hb6).bx.cell
              try (go_wp2_with fail)
              have hHeld' := hHeld.below hb6
              refine hK.out _ _ ?_ (fun _ => ?_)
              · exact hHeld'
              clear hK K hHeld
              have hHeld := hHeld'
              clear hHeld'
              try simp only [Act.put, List.setIfInBounds_toArray, List.set_cons_zero, List.set_cons_succ]
              refine wpAnyH_ready (rs := [0]) (by kernel_rfl) (by simp) ?_
              refine AllReadyH.cons (o := { dst := some 39, op := Op.load 22 (Operand.tmp 5), type := 22, pos := "rows.go:45", after := #[], guard := none }) rfl (fun K hK => ?_) AllReadyH.nil
              go_simp
              try (go_wp2_with fail)
              refine hK.out _ _ ?_ (fun _ => ?_)
              · exact hHeld
              clear hK K
              try simp only [Act.put, List.setIfInBounds_toArray, List.set_cons_zero, List.set_cons_succ]
              refine wpAnyH_ready (rs := [12]) (by kernel_rfl) (by simp) ?_
              refine AllReadyH.cons (o := { dst := some 51, op := Op.call { callee := Callee.builtin Builtin.append, args := #[Operand.tmp 39, Operand.tmp 50], argTypes := #[22, 22] }, type := 22, pos := "rows.go:45", after := #[{ on := 0, ground := Ground.data }, { on := 11, ground := Ground.data }, { on := 9, ground := Ground.chain }], guard := none }) rfl (fun K hK => ?_) AllReadyH.nil
              obtain ⟨us, hus, ho, hf⟩ := HST4.out.oc
              have HUL := Lib.hid (show us.length ≤ 3000000 by have h := congrArg List.length hus; rw [List.length_map] at h; rw [h]; exact HLN.out)
              have hoA := own_below ho hb6
              have hss := HST4.out.dk.1.size
              refine step_own rfl (.tmp 39) (.tmp 50) 22 22 rfl w.heap.size 51 (.agg #[.string ⟨#[]⟩, .slice none 0 0, .bool false]) 3 48 Try.underlying22 info51 rfl rfl hoA rfl (src_three _ rfl Try.underlying22 51 _ _ _ rfl rfl rfl) (Below.refl w.heap.size _) (Nat.le_refl _) ?_ ?_ ?_ ?_
              · have := HUL.out; unfold maxLen; omega
              · have := HUL.out; omega
              · simp; omega
              intro v5 w5 ho5 hb5 hg5
              obtain ⟨g5, c5, rfl⟩ := ownsRow_succ ho5
              obtain ⟨hbx, hdk5, hst5, hko5, hbe5⟩ := HST4.out.push hus ho hf HF4.out ho5 hg5
              have hc5 := hbx.cell
              have hf5 := hbx.frozen
              have HST5 := Lib.hid hst5
              have HKO5 := Lib.hid hko5
              clear hst5 hko5 hbe5 hus ho hf hoA ho5 hb5 hg5
              have hHeld' := hdk5
              refine hK.out _ _ ?_ (fun _ => ?_)
              · exact hHeld'
              clear hK K hHeld
              have hHeld := hHeld'
              clear hHeld'
              try simp only [Act.put, List.setIfInBounds_toArray, List.set_cons_zero, List.set_cons_succ]
              refine wpAnyH_ready (rs := [13]) (by kernel_rfl) (by simp) ?_
              refine AllReadyH.cons (o := { dst := none, op := Op.store 22 (Operand.tmp 5) (Operand.tmp 51), type := 0, pos := "rows.go:45", after := #[{ on := 12, ground := Ground.data }, { on := 12, ground := Ground.chain }, { on := 0, ground := Ground.phase }, { on := 1, ground := Ground.phase }, { on := 2, ground := Ground.phase }, { on := 3, ground := Ground.phase }, { on := 4, ground := Ground.phase }, { on := 5, ground := Ground.phase }, { on := 6, ground := Ground.phase }, { on := 7, ground := Ground.phase }, { on := 8, ground := Ground.phase }, { on := 9, ground := Ground.phase }, { on := 10, ground := Ground.phase }, { on := 11, ground := Ground.phase }, { on := 12, ground := Ground.phase }], guard := none }) rfl (fun K hK => ?_) AllReadyH.nil
              go_simp
              try (go_wp2_with fail)
              have hHeld' := HST5.out.dk
              refine hK.out _ _ ?_ (fun _ => ?_)
              · exact hHeld'
              clear hK K hHeld
              have hHeld := hHeld'
              clear hHeld'
              try simp only [Act.put, List.setIfInBounds_toArray, List.set_cons_zero, List.set_cons_succ]
              refine wpAnyH_done (by kernel_rfl) ?_ _
              try simp only [Exit.then]
              exact ⟨(HKOE.out.trans (HKO4.out.trans HKO5.out)).from _, fun _ => HST5.out.dk, ⟨_, by rw [List.map_append, List.flatMap_append, ← HE.out]; simp only [List.map_cons, List.map_nil, List.flatMap_cons, List.flatMap_nil, emitL, if_neg HVE.out, List.append_nil]; exact HST5.out, by rw [List.map_append, List.flatMap_append, ← HE.out, List.length_append, List.length_append]; simp [emitL, HVE.out]; omega⟩⟩
end Go.Proofs.Ytomkbgghljcbfaa
