/-
  The contract of the document's Diff: the changes from rising rows to others.
-/
import Derived.Test.YtomkbgghljcbfaaDiffM
import Derived.Test.YtomkbgghljcbfaaRefFindR
import Derived.Test.YtomkbgghljcbfaaGChg
import Derived.Test.YtomkbgghljcbfaaGPg
import Derived.Test.YtomkbgghljcbfaaDiff
import Derived.Test.YtomkbgghljcbfaaSame2
namespace Go.Proofs.Ytomkbgghljcbfaa
open Go.RowKit Go.Rst Go.Pg Go.Crc
/-- Changes whose cells are the call's own and whose values lay there before. -/
theorem rc_own {w w' : World} {base : Nat} {v : Value} {us : List (Chg × Value)} (ho : w'.ownsRow base 51 3 v us.length (chCells us)) (hf : ∀ x ∈ us, RB w x.2 x.1.2.1) (hb : Below w.heap.size w w') : RC w' v (us.map (·.1)) := by
  rcases ho.2 with ⟨rfl, h0⟩ | ⟨g, cap, cur, rfl, hbg, hg, hnc, hcm, hcs, ht⟩
  · have : us = [] := List.eq_nil_of_length_eq_zero h0
    subst this
    exact ⟨none, 0, rfl, Nat.le_refl _, Nat.zero_le _, .inl rfl⟩
  · refine ⟨some ⟨g, 0, none⟩, cap, by rw [List.length_map], by rw [List.length_map]; exact hnc, hcm, .inr ⟨g, 0, rfl, (Array.getElem?_eq_some_iff.1 hg).1, fun j hj => ?_⟩⟩
    rw [List.length_map] at hj
    have hc := chCells_get us j hj
    have h1 := ho.cells (g := g) rfl _ _ hc.1
    have h2 := ho.cells (g := g) rfl _ _ hc.2.1
    have h3 := ho.cells (g := g) rfl _ _ hc.2.2
    rw [Addr.add_lit] at h1 h2 h3
    refine ⟨by simpa using h1, ⟨us[j].2, by simpa [Nat.add_assoc] using h2, ?_⟩, by simpa [Nat.add_assoc] using h3⟩
    have := (hf us[j] (List.getElem_mem hj)).below hb
    simpa using this
/-- One change more. -/
theorem chs_push {w : World} {us : List (Chg × Value)} {k : ByteArray} {l : List UInt8} {g : Bool} {u : Value} (hf : ∀ x ∈ us, RB w x.2 x.1.2.1) (hu : RB w u l) : ∀ x ∈ us ++ [((k, l, g), u)], RB w x.2 x.1.2.1 := fun x hx => by
  rcases List.mem_append.1 hx with hx | hx
  · exact hf x hx
  · rw [List.mem_singleton] at hx
    subst hx
    exact hu
theorem chCells_snoc (us : List (Chg × Value)) (k : ByteArray) (l : List UInt8) (g : Bool) (u : Value) : chCells (us ++ [((k, l, g), u)]) = chCells us ++ [.string k, u, .bool g] := by unfold chCells; rw [List.flatMap_append]; rfl

set_option maxRecDepth 100000 in
set_option maxHeartbeats 6000000 in
theorem refDiff_any (v u : Value) (fs ts : List Rw) (w : World) (hv : RR w v fs) (hu : RR w u ts) (hsf : Sorted fs) (hst : Sorted ts) (hlen : fs.length + ts.length ≤ 100000) :
    Calls Try.prog 22 #[v, u] w fun e w' => ∃ v', e = .returned v' ∧ RC w' v' (diffL fs ts) ∧ Below w.heap.size w w' := by
  have HF := Lib.hid hv
  have HT := Lib.hid hu
  obtain ⟨A1, c1, rfl, hlc1, hc163⟩ := rr_shape hv
  obtain ⟨A2, c2, rfl, hlc2, hc263⟩ := rr_shape hu
  clear hv hu
  go_enter Try.func22, Try.ntmps22
  go_wp2
  go_loopw [5, 6, 7, 8, 9, 10, 11] (fun ov iv kv _ _ _ _ wr => ∃ (k i : Nat) (p : Bool) (out : List Chg) (us : List (Chg × Value)), DI fs ts i k out p ∧ iv = .int .i64 i ∧ kv = .int .i64 k ∧ wr.ownsRow w.heap.size 51 3 ov us.length (chCells us) ∧ (∀ x ∈ us, RB w x.2 x.1.2.1) ∧
      us.map (·.1) = out ∧ us.length ≤ i + k ∧ Below w.heap.size w wr) (fun _ _ kv _ _ _ _ _ => ts.length + 1 - (intOf kv).toNat)
  case atStart => exact ⟨0, 0, false, [], [], DI.start fs ts, rfl, rfl, World.ownsRow_nil _ _ _ _, fun _ h => (by cases h), rfl, Nat.zero_le _, Below.refl _ _⟩
  case round =>
    obtain ⟨k, i0, p0, out0, us0, hdi0, rfl, rfl, hown0, hfs0, hmp0, hln0, hbel0⟩ := hrel
    obtain ⟨Wo, hWo⟩ : ∃ x, x = wr := ⟨_, rfl⟩
    subst hWo
    have hkl := hdi0.hk
    have q1 : (0 : Int) ≤ (k : Int) := by omega
    have q2 : (k : Int) ≤ ts.length := by omega
    obtain ⟨Ao0, co0, rfl, _⟩ := own_shape hown0
    have HD0 := Lib.hid hdi0
    have HO0 := Lib.hid hown0
    have HFS0 := Lib.hid hfs0
    have HMP0 := Lib.hid hmp0
    have HB0 := Lib.hid hbel0
    clear hdi0 hown0 hfs0 hmp0 hbel0
    go_wp2
    go_loopw [5, 6, 8, 9] (fun ov iv _ _ wi => ∃ (i : Nat) (p : Bool) (out : List Chg) (us : List (Chg × Value)), DI fs ts i k out p ∧ iv = .int .i64 i ∧ wi.ownsRow w.heap.size 51 3 ov us.length (chCells us) ∧ (∀ x ∈ us, RB w x.2 x.1.2.1) ∧
        us.map (·.1) = out ∧ us.length ≤ i + k ∧ Below w.heap.size w wi) (fun _ iv _ _ _ => fs.length - (intOf iv).toNat)
    case atStart => exact ⟨i0, p0, out0, us0, HD0.out, rfl, HO0.out, HFS0.out, HMP0.out, hln0, HB0.out⟩
    case round =>
      clear HD0 HO0 HFS0 HMP0 HB0 hln0
      obtain ⟨i, p, out, us, hdi, rfl, hown, hfs, hmp, hln, hbel⟩ := hrel
      have hil := hdi.hi
      have q3 : (0 : Int) ≤ (i : Int) := by omega
      obtain ⟨Ao, co, rfl, _⟩ := own_shape hown
      have HD := Lib.hid hdi
      have HO := Lib.hid hown
      have HFS := Lib.hid hfs
      have HMP := Lib.hid hmp
      have HB := Lib.hid hbel
      have hsz := hbel.size
      clear hdi hown hfs hmp hbel
      by_cases hif : i < fs.length
      · obtain ⟨b1, o1, u1, rfl, hx1, hy1, hr1⟩ := rr_at HF.out hif
        have hbw1 : b1 < w.heap.size := block_lt_of_cell hx1
        have hx1' := (HB.out.cell (p := ⟨b1, o1 + i * 2, none⟩) hbw1).trans hx1
        have hx1d := fun j => (show (wr.drewN j).cell? ⟨b1, o1 + i * 2, none⟩ = _ from hx1')
        have q4 : (i : Int) < fs.length := by omega
        have HI := Lib.hid (HD.out.inner hsf hst hif)
        have HIO := Lib.hid (HD.out.outer hsf hst)
        by_cases hkt : k < ts.length
        · obtain ⟨b2, o2, u2, rfl, hx2, hy2, hr2⟩ := rr_at HT.out hkt
          have hbw2 : b2 < w.heap.size := block_lt_of_cell hx2
          have hx2' := (HB.out.cell (p := ⟨b2, o2 + k * 2, none⟩) hbw2).trans hx2
          have hx2d := fun j => (show (wr.drewN j).cell? ⟨b2, o2 + k * 2, none⟩ = _ from hx2')
          have q5 : (k : Int) < ts.length := by omega
          have hke : ((k : Int) == (ts.length : Int)) = false := by rw [beq_eq_false_iff_ne]; omega
          cases hlt : Op.bytesLess (kl fs[i]) (kl ts[k]) with
          | true =>
            have hlt2 : Op.bytesLess (fs[i].1).toList (ts[k].1).toList = true := hlt
            obtain ⟨hsome, hdi2⟩ := HI.out (fun _ => hlt)
            clear HIO HI
            go_wp2
            go_quiet (fail)
            go_wp2_with fail
            refine (refFind_any _ ts fs[i].1 _ (rr_below HT.out (below_drewN HB.out nq) (Nat.le_refl _))).mono ?_
            rintro e w3 ⟨hr, hb3⟩
            have HB3 := Lib.hid ((below_drewN HB.out nq).trans (hb3.mono (below_drewN HB.out nq).size))
            have HO3 := Lib.hid (own_below (w := wr.drewN nq) HO.out hb3)
            clear hb3
            cases p with
            | true =>
              obtain ⟨⟨xk, xv⟩, hx⟩ := Option.isSome_iff_exists.1 hsome
              rw [hx] at hr
              simp only at hr
              obtain ⟨ux, rfl, hru⟩ := hr
              obtain ⟨Ax, cx, rfl⟩ := rb_shape hru
              obtain ⟨nx, hnx⟩ : ∃ nx, nx = xv.length := ⟨_, rfl⟩
              rw [← hnx] at hru ⊢
              have HDI := Lib.hid hdi2
              have HB4 := Lib.hid (HB3.out.alloc HB3.out.size (Obj.cells #[.string xk, .slice Ax nx cx] 53))
              have HO4 := Lib.hid (own_below HO3.out ((Below.refl _ _).alloc (Nat.le_refl _) (Obj.cells #[.string xk, .slice Ax nx cx] 53)))
              clear hdi2 hsome hx hru hnx
              go_wp2
              go_roundw
              case rel => exact ⟨i + 1, false, out, us, by simpa using HDI.out, by go_num, HO4.out, HFS.out, HMP.out, by omega, HB4.out⟩
              case measure => simp [intOf]; omega
            | false =>
              have hx : findR ts fs[i].1 = none := by simpa using hsome
              rw [hx] at hr
              simp only at hr
              subst hr
              have HDI := Lib.hid hdi2
              have HB4 := Lib.hid (HB3.out.alloc HB3.out.size (Obj.cells #[.string ⟨#[]⟩, .slice none 0 0] 53))
              have HO4 := Lib.hid (own_below HO3.out ((Below.refl _ _).alloc (Nat.le_refl _) (Obj.cells #[.string ⟨#[]⟩, .slice none 0 0] 53)))
              have hx4 := (HB4.out.cell (p := ⟨b1, o1 + i * 2, none⟩) hbw1).trans hx1
              have HB5 := Lib.hid (HB4.out.alloc HB4.out.size (Obj.cells #[.string fs[i].1, .slice none 0 0, .bool true] 51))
              have HO5 := Lib.hid (own_below HO4.out ((Below.refl _ _).alloc (Nat.le_refl _) (Obj.cells #[.string fs[i].1, .slice none 0 0, .bool true] 51)))
              clear hdi2 hsome hx
              go_wp2_with (at_builtin; refine wpList_own rfl (.tmp 53) (.tmp 60) 22 22 rfl w.heap.size 51 (.agg #[.string ⟨#[]⟩, .slice none 0 0, .bool false]) 3 48 Try.underlying22 info51 rfl rfl HO5.out rfl (src_three _ (by simp) Try.underlying22 51 _ _ _ rfl rfl rfl) HB5.out (Nat.le_refl _) ?_ ?_ ?_ ?_)
              · unfold maxLen; omega
              · omega
              · exact HB5.out.size
              intro v6 w6 ho6 hb6 _
              have HO6 := Lib.hid ho6
              have HB6 := Lib.hid hb6
              clear ho6 hb6 hx4
              go_wp2
              go_roundw
              case rel => exact ⟨i + 1, false, out ++ [goneL fs[i]], us ++ [((fs[i].1, [], true), .slice none 0 0)], by simpa using HDI.out, by go_num, by rw [List.length_append, chCells_snoc]; exact HO6.out, chs_push HFS.out (RB.nil_ _), by rw [List.map_append, HMP.out]; rfl, by rw [List.length_append, List.length_singleton]; omega, HB6.out⟩
              case measure => simp [intOf]; omega
          | false =>
            have hlt2 : Op.bytesLess (fs[i].1).toList (ts[k].1).toList = false := hlt
            obtain ⟨hso, hno⟩ := HIO.out hkt (fun _ => hlt)
            clear HI HIO
            go_wp2
            go_quiet (fail)
            go_wp2_with fail
            refine (refFind_any _ fs ts[k].1 _ (rr_below HF.out (below_drewN HB.out nq) (Nat.le_refl _))).mono ?_
            rintro e w3 ⟨hr, hb3⟩
            have HB3 := Lib.hid ((below_drewN HB.out nq).trans (hb3.mono (below_drewN HB.out nq).size))
            have HO3 := Lib.hid (own_below (w := wr.drewN nq) HO.out hb3)
            cases hfd : findR fs ts[k].1 with
            | none =>
              have HDI := Lib.hid (hno hfd)
              rw [hfd] at hr
              simp only at hr
              subst hr
              have HB4 := Lib.hid (HB3.out.alloc HB3.out.size (Obj.cells #[.string ⟨#[]⟩, .slice none 0 0] 53))
              have HO4 := Lib.hid (own_below HO3.out ((Below.refl _ _).alloc (Nat.le_refl _) (Obj.cells #[.string ⟨#[]⟩, .slice none 0 0] 53)))
              clear hso hno hfd hb3
              go_wp2
              generalize w3.alloc (Obj.cells #[.string ⟨#[]⟩, .slice none 0 0] 53) = w4 at *
              go_quiet (fail)
              have HB5 := Lib.hid (below_drewN HB4.out nq)
              have HO5 := Lib.hid (show (w4.drewN nq).ownsRow _ _ _ _ _ _ from HO4.out)
              generalize w4.drewN nq = w5 at *
              clear HB4 HO4
              obtain ⟨Av, cv, hus2⟩ := rb_shape hr2
              have HR2 := Lib.hid hr2
              obtain ⟨nv, hnv⟩ : ∃ nv, nv = ts[k].2.length := ⟨_, rfl⟩
              rw [← hnv] at hus2
              subst hus2
              clear hnv hr2
              go_wp2
              refine wp_region_held_drew (S := fun X => Below w.heap.size w X) (by kernel_rfl) HB5.out.drew (fun hHeld => ?_)
              have HOD := Lib.hid (show w5.drew.ownsRow _ _ _ _ _ _ from HO5.out)
              generalize w5.drew = wd at *
              refine wpAnyH_take (i := 0) (oi := { dst := some 93, op := Op.move (Operand.tmp 5), type := 22, pos := "ref.go:165", after := #[], guard := none }) (v := ?_) rfl (by kernel_rfl) (by kernel_rfl) (by kernel_rfl) (fun _ _ _ h => h) (Or.inl ⟨by rfl, ?_⟩) (by assumption) ?_
              rotate_left
              · intro X hSw; go_simp; try (with_reducible rfl)
              try simp only [Act.put, List.setIfInBounds_toArray, List.set_cons_zero, List.set_cons_succ]
              refine wpAnyH_take (i := 1) (oi := { dst := some 94, op := Op.move (Operand.tmp 1), type := 34, pos := "ref.go:165", after := #[], guard := none }) (v := ?_) rfl (by kernel_rfl) (by kernel_rfl) (by kernel_rfl) (fun _ _ _ h => h) (Or.inl ⟨by rfl, ?_⟩) (by assumption) ?_
              rotate_left
              · intro X hSw; go_simp; try (with_reducible rfl)
              try simp only [Act.put, List.setIfInBounds_toArray, List.set_cons_zero, List.set_cons_succ]
              refine wpAnyH_take (i := 2) (oi := { dst := some 95, op := Op.move (Operand.tmp 7), type := 3, pos := "ref.go:165", after := #[], guard := none }) (v := ?_) rfl (by kernel_rfl) (by kernel_rfl) (by kernel_rfl) (fun _ _ _ h => h) (Or.inl ⟨by rfl, ?_⟩) (by assumption) ?_
              rotate_left
              · intro X hSw; go_simp; try (with_reducible rfl)
              try simp only [Act.put, List.setIfInBounds_toArray, List.set_cons_zero, List.set_cons_succ]
              refine wpAnyH_take (i := 3) (oi := { dst := some 96, op := Op.indexAddr 34 (Operand.tmp 94) (Operand.tmp 95), type := 0, pos := "ref.go:165", after := #[{ on := 1, ground := Ground.data }, { on := 2, ground := Ground.data }], guard := none }) (v := ?_) rfl (by kernel_rfl) (by kernel_rfl) (by kernel_rfl) (fun _ _ _ h => h) (Or.inl ⟨by rfl, ?_⟩) (by assumption) ?_
              rotate_left
              · intro X hSw; go_simp; try (with_reducible rfl)
              try simp only [Act.put, List.setIfInBounds_toArray, List.set_cons_zero, List.set_cons_succ]
              refine wpAnyH_take (i := 4) (oi := { dst := some 97, op := Op.fieldAddr 53 (Operand.tmp 96) 0, type := 0, pos := "ref.go:165", after := #[{ on := 3, ground := Ground.data }], guard := none }) (v := ?_) rfl (by kernel_rfl) (by kernel_rfl) (by kernel_rfl) (fun _ _ _ h => h) (Or.inl ⟨by rfl, ?_⟩) (by assumption) ?_
              rotate_left
              · intro X hSw; go_simp; try (with_reducible rfl)
              try simp only [Act.put, List.setIfInBounds_toArray, List.set_cons_zero, List.set_cons_succ]
              refine wpAnyH_take (i := 5) (oi := { dst := some 98, op := Op.load 9 (Operand.tmp 97), type := 9, pos := "ref.go:165", after := #[{ on := 4, ground := Ground.data }], guard := none }) (v := ?_) rfl (by kernel_rfl) (by kernel_rfl) (by kernel_rfl) (fun _ _ _ h => h) (Or.inl ⟨by rfl, ?_⟩) (by assumption) ?_
              rotate_left
              · intro X hSw; have hq := (hSw.cell (p := ⟨b2, o2 + k * 2, none⟩) hbw2).trans hx2; go_simp; try (with_reducible rfl)
              try simp only [Act.put, List.setIfInBounds_toArray, List.set_cons_zero, List.set_cons_succ]
              refine wpAnyH_take (i := 6) (oi := { dst := some 99, op := Op.move (Operand.tmp 1), type := 34, pos := "ref.go:165", after := #[], guard := none }) (v := ?_) rfl (by kernel_rfl) (by kernel_rfl) (by kernel_rfl) (fun _ _ _ h => h) (Or.inl ⟨by rfl, ?_⟩) (by assumption) ?_
              rotate_left
              · intro X hSw; go_simp; try (with_reducible rfl)
              try simp only [Act.put, List.setIfInBounds_toArray, List.set_cons_zero, List.set_cons_succ]
              refine wpAnyH_take (i := 7) (oi := { dst := some 100, op := Op.move (Operand.tmp 7), type := 3, pos := "ref.go:165", after := #[], guard := none }) (v := ?_) rfl (by kernel_rfl) (by kernel_rfl) (by kernel_rfl) (fun _ _ _ h => h) (Or.inl ⟨by rfl, ?_⟩) (by assumption) ?_
              rotate_left
              · intro X hSw; go_simp; try (with_reducible rfl)
              try simp only [Act.put, List.setIfInBounds_toArray, List.set_cons_zero, List.set_cons_succ]
              refine wpAnyH_take (i := 8) (oi := { dst := some 101, op := Op.indexAddr 34 (Operand.tmp 99) (Operand.tmp 100), type := 0, pos := "ref.go:165", after := #[{ on := 6, ground := Ground.data }, { on := 7, ground := Ground.data }], guard := none }) (v := ?_) rfl (by kernel_rfl) (by kernel_rfl) (by kernel_rfl) (fun _ _ _ h => h) (Or.inl ⟨by rfl, ?_⟩) (by assumption) ?_
              rotate_left
              · intro X hSw; go_simp; try (with_reducible rfl)
              try simp only [Act.put, List.setIfInBounds_toArray, List.set_cons_zero, List.set_cons_succ]
              refine wpAnyH_take (i := 9) (oi := { dst := some 102, op := Op.fieldAddr 53 (Operand.tmp 101) 1, type := 0, pos := "ref.go:165", after := #[{ on := 8, ground := Ground.data }], guard := none }) (v := ?_) rfl (by kernel_rfl) (by kernel_rfl) (by kernel_rfl) (fun _ _ _ h => h) (Or.inl ⟨by rfl, ?_⟩) (by assumption) ?_
              rotate_left
              · intro X hSw; go_simp; try (with_reducible rfl)
              try simp only [Act.put, List.setIfInBounds_toArray, List.set_cons_zero, List.set_cons_succ]
              refine wpAnyH_take (i := 10) (oi := { dst := some 103, op := Op.load 23 (Operand.tmp 102), type := 23, pos := "ref.go:165", after := #[{ on := 9, ground := Ground.data }], guard := none }) (v := ?_) rfl (by kernel_rfl) (by kernel_rfl) (by kernel_rfl) (fun _ _ _ h => h) (Or.inl ⟨by rfl, ?_⟩) (by assumption) ?_
              rotate_left
              · intro X hSw; have hq := (hSw.cell (p := ⟨b2, o2 + k * 2 + 1, none⟩) hbw2).trans hy2; go_simp; try (with_reducible rfl)
              try simp only [Act.put, List.setIfInBounds_toArray, List.set_cons_zero, List.set_cons_succ]
              refine wpAnyH_take (i := 11) (oi := { dst := some 104, op := Op.build 51 #[(0, Operand.tmp 98), (1, Operand.tmp 103)], type := 51, pos := "ref.go:165", after := #[{ on := 5, ground := Ground.data }, { on := 10, ground := Ground.data }], guard := none }) (v := ?_) rfl (by kernel_rfl) (by kernel_rfl) (by kernel_rfl) (fun _ _ _ h => h) (Or.inl ⟨by rfl, ?_⟩) (by assumption) ?_
              rotate_left
              · intro X hSw; go_simp; try (with_reducible rfl)
              try simp only [Act.put, List.setIfInBounds_toArray, List.set_cons_zero, List.set_cons_succ]
              refine wpAnyH_ready (rs := [12]) (by kernel_rfl) (by simp) ?_
              refine AllReadyH.cons (o := { dst := some 105, op := Op.buildSlice 22 1 #[(0, Operand.tmp 104)], type := 22, pos := "ref.go:165", after := #[{ on := 11, ground := Ground.data }], guard := none }) rfl (fun K hK => ?_) AllReadyH.nil
              go_simp
              have hb6 := (Below.refl wd.heap.size wd).alloc (Nat.le_refl _) (Obj.cells #[.string ts[k].1, .slice Av nv cv, .bool false] 51)
              try (go_wp2_with fail)
              have hHeld' := hHeld.trans (hb6.mono hHeld.size)
              refine hK.out _ _ ?_ (fun _ => ?_)
              · exact hHeld'
              clear hK K hHeld
              have hHeld := hHeld'
              clear hHeld'
              try simp only [Act.put, List.setIfInBounds_toArray, List.set_cons_zero, List.set_cons_succ]
              refine wpAnyH_ready (rs := [13]) (by kernel_rfl) (by simp) ?_
              refine AllReadyH.cons (o := { dst := some 106, op := Op.call { callee := Callee.builtin Builtin.append, args := #[Operand.tmp 93, Operand.tmp 105], argTypes := #[22, 22] }, type := 22, pos := "ref.go:165", after := #[{ on := 0, ground := Ground.data }, { on := 12, ground := Ground.data }], guard := none }) rfl (fun K hK => ?_) AllReadyH.nil
              have hoA := own_below HOD.out hb6
              refine step_own rfl (.tmp 93) (.tmp 105) 22 22 rfl w.heap.size 51 (.agg #[.string ⟨#[]⟩, .slice none 0 0, .bool false]) 3 48 Try.underlying22 info51 rfl rfl hoA rfl (src_three _ rfl Try.underlying22 51 _ _ _ rfl rfl rfl) hHeld (Nat.le_refl _) ?_ ?_ ?_ ?_
              · unfold maxLen; omega
              · omega
              · exact hHeld.size
              intro v6 w6 ho6 hb7 _
              have HO6 := Lib.hid ho6
              clear ho6 hoA
              have hHeld' := hb7
              refine hK.out _ _ ?_ (fun _ => ?_)
              · exact hHeld'
              clear hK K hHeld
              have hHeld := hHeld'
              clear hHeld'
              try simp only [Act.put, List.setIfInBounds_toArray, List.set_cons_zero, List.set_cons_succ]
              refine wpAnyH_take (i := 14) (oi := { dst := some 5, op := Op.assign (Operand.tmp 106), type := 22, pos := "ref.go:165", after := #[{ on := 13, ground := Ground.data }, { on := 13, ground := Ground.chain }, { on := 0, ground := Ground.phase }, { on := 1, ground := Ground.phase }, { on := 2, ground := Ground.phase }, { on := 3, ground := Ground.phase }, { on := 4, ground := Ground.phase }, { on := 5, ground := Ground.phase }, { on := 6, ground := Ground.phase }, { on := 7, ground := Ground.phase }, { on := 8, ground := Ground.phase }, { on := 9, ground := Ground.phase }, { on := 10, ground := Ground.phase }, { on := 11, ground := Ground.phase }, { on := 12, ground := Ground.phase }, { on := 13, ground := Ground.phase }], guard := none }) (v := ?_) rfl (by kernel_rfl) (by kernel_rfl) (by kernel_rfl) (fun _ _ _ h => h) (Or.inl ⟨by rfl, ?_⟩) (by assumption) ?_
              rotate_left
              · intro X hSw; go_simp; try (with_reducible rfl)
              try simp only [Act.put, List.setIfInBounds_toArray, List.set_cons_zero, List.set_cons_succ]
              refine wpAnyH_done (by kernel_rfl) ?_ _
              have HB7 := Lib.hid hHeld
              clear hHeld
              go_wp2
              go_roundw
              case rel => exact ⟨k + 1, i, false, out ++ [putL ts[k]], us ++ [((ts[k].1, ts[k].2, false), .slice Av nv cv)], HDI.out, rfl, by go_num, by rw [List.length_append, chCells_snoc]; exact HO6.out, chs_push HFS.out HR2.out, by rw [List.map_append, HMP.out]; rfl, by rw [List.length_append, List.length_singleton]; omega, HB7.out⟩
              case measure => simp [intOf]; omega
            | some x =>
              obtain ⟨xk, xv⟩ := x
              obtain ⟨hs1, hs2⟩ := hso _ hfd
              rw [hfd] at hr
              simp only at hr hs1 hs2
              obtain ⟨ux, rfl, hru⟩ := hr
              obtain ⟨Ax, cx, rfl⟩ := rb_shape hru
              obtain ⟨nx, hnx⟩ : ∃ nx, nx = xv.length := ⟨_, rfl⟩
              rw [← hnx] at hru ⊢
              have HB4 := Lib.hid (HB3.out.alloc HB3.out.size (Obj.cells #[.string xk, .slice Ax nx cx] 53))
              have HO4 := Lib.hid (own_below HO3.out ((Below.refl _ _).alloc (Nat.le_refl _) (Obj.cells #[.string xk, .slice Ax nx cx] 53)))
              have HR4 := Lib.hid ((hru.below hb3).below ((Below.refl _ _).alloc (Nat.le_refl _) (Obj.cells #[.string xk, .slice Ax nx cx] 53)))
              have HRC := Lib.hid (show (w3.alloc (Obj.cells #[.string xk, .slice Ax nx cx] 53)).cell? ⟨w3.heap.size, 1, none⟩ = some (.slice Ax nx cx) from (cell_of_row _ _ 1 _ _ _ (heap_alloc_new w3 _)).trans rfl)
              have HR2B := Lib.hid (hr2.below HB4.out)
              clear hso hno hfd hb3 hru hnx
              go_wp2
              generalize w3.alloc (Obj.cells #[.string xk, .slice Ax nx cx] 53) = w4 at *
              have hcs1 := fun (j : Nat) => str22 (HR4.out.keep (w' := w4.drewN j) (Nat.le_refl _) (fun _ _ _ => rfl))
              have hcs2 := fun (j : Nat) => str22 (HR2B.out.keep (w' := w4.drewN j) (Nat.le_refl _) (fun _ _ _ => rfl))
              have hrc4 := fun j => (show (w4.drewN j).cell? ⟨w3.heap.size, 1, none⟩ = _ from HRC.out)
              have hy4 := fun j => (show (w4.drewN j).cell? ⟨b2, o2 + k * 2 + 1, none⟩ = _ from (HB4.out.cell (p := ⟨b2, o2 + k * 2 + 1, none⟩) hbw2).trans hy2)
              by_cases hvv : xv = ts[k].2
              · have HDI := Lib.hid (hs1 hvv)
                rw [hvv] at hcs1
                clear hs1 hs2 hvv
                go_quiet (fail)
                have HB5 := Lib.hid (below_drewN HB4.out nq)
                have HO5 := Lib.hid (show (w4.drewN nq).ownsRow _ _ _ _ _ _ from HO4.out)
                generalize w4.drewN nq = w5 at *
                clear HB4 HO4 hcs1 hcs2 hrc4 hy4
                go_wp2
                go_roundw
                case rel => exact ⟨k + 1, i, true, out, us, HDI.out, rfl, by go_num, HO5.out, HFS.out, HMP.out, by omega, HB5.out⟩
                case measure => simp [intOf]; omega
              · have HDI := Lib.hid (hs2 hvv)
                have hv1 : ((⟨xv.toArray⟩ : ByteArray).toList != (⟨ts[k].2.toArray⟩ : ByteArray).toList) = true := bne_iff_ne.2 (ba_neL (ba_ne hvv))
                have hv2 : ((⟨xv.toArray⟩ : ByteArray).toList == (⟨ts[k].2.toArray⟩ : ByteArray).toList) = false := beq_eq_false_iff_ne.2 (ba_neL (ba_ne hvv))
                generalize (⟨xv.toArray⟩ : ByteArray) = z1 at *
                generalize (⟨ts[k].2.toArray⟩ : ByteArray) = z2 at *
                clear hs1 hs2 hvv
                go_quiet (fail)
                have HB5 := Lib.hid (below_drewN HB4.out nq)
                have HO5 := Lib.hid (show (w4.drewN nq).ownsRow _ _ _ _ _ _ from HO4.out)
                generalize w4.drewN nq = w5 at *
                clear HB4 HO4 hcs1 hcs2 hrc4 hy4 hv1 hv2
                obtain ⟨Av, cv, hus2⟩ := rb_shape hr2
                have HR2 := Lib.hid hr2
                obtain ⟨nv, hnv⟩ : ∃ nv, nv = ts[k].2.length := ⟨_, rfl⟩
                rw [← hnv] at hus2
                subst hus2
                clear hnv hr2
                go_wp2
                refine wp_region_held_drew (S := fun X => Below w.heap.size w X) (by kernel_rfl) HB5.out.drew (fun hHeld => ?_)
                have HOD := Lib.hid (show w5.drew.ownsRow _ _ _ _ _ _ from HO5.out)
                generalize w5.drew = wd at *
                refine wpAnyH_take (i := 0) (oi := { dst := some 93, op := Op.move (Operand.tmp 5), type := 22, pos := "ref.go:165", after := #[], guard := none }) (v := ?_) rfl (by kernel_rfl) (by kernel_rfl) (by kernel_rfl) (fun _ _ _ h => h) (Or.inl ⟨by rfl, ?_⟩) (by assumption) ?_
                rotate_left
                · intro X hSw; go_simp; try (with_reducible rfl)
                try simp only [Act.put, List.setIfInBounds_toArray, List.set_cons_zero, List.set_cons_succ]
                refine wpAnyH_take (i := 1) (oi := { dst := some 94, op := Op.move (Operand.tmp 1), type := 34, pos := "ref.go:165", after := #[], guard := none }) (v := ?_) rfl (by kernel_rfl) (by kernel_rfl) (by kernel_rfl) (fun _ _ _ h => h) (Or.inl ⟨by rfl, ?_⟩) (by assumption) ?_
                rotate_left
                · intro X hSw; go_simp; try (with_reducible rfl)
                try simp only [Act.put, List.setIfInBounds_toArray, List.set_cons_zero, List.set_cons_succ]
                refine wpAnyH_take (i := 2) (oi := { dst := some 95, op := Op.move (Operand.tmp 7), type := 3, pos := "ref.go:165", after := #[], guard := none }) (v := ?_) rfl (by kernel_rfl) (by kernel_rfl) (by kernel_rfl) (fun _ _ _ h => h) (Or.inl ⟨by rfl, ?_⟩) (by assumption) ?_
                rotate_left
                · intro X hSw; go_simp; try (with_reducible rfl)
                try simp only [Act.put, List.setIfInBounds_toArray, List.set_cons_zero, List.set_cons_succ]
                refine wpAnyH_take (i := 3) (oi := { dst := some 96, op := Op.indexAddr 34 (Operand.tmp 94) (Operand.tmp 95), type := 0, pos := "ref.go:165", after := #[{ on := 1, ground := Ground.data }, { on := 2, ground := Ground.data }], guard := none }) (v := ?_) rfl (by kernel_rfl) (by kernel_rfl) (by kernel_rfl) (fun _ _ _ h => h) (Or.inl ⟨by rfl, ?_⟩) (by assumption) ?_
                rotate_left
                · intro X hSw; go_simp; try (with_reducible rfl)
                try simp only [Act.put, List.setIfInBounds_toArray, List.set_cons_zero, List.set_cons_succ]
                refine wpAnyH_take (i := 4) (oi := { dst := some 97, op := Op.fieldAddr 53 (Operand.tmp 96) 0, type := 0, pos := "ref.go:165", after := #[{ on := 3, ground := Ground.data }], guard := none }) (v := ?_) rfl (by kernel_rfl) (by kernel_rfl) (by kernel_rfl) (fun _ _ _ h => h) (Or.inl ⟨by rfl, ?_⟩) (by assumption) ?_
                rotate_left
                · intro X hSw; go_simp; try (with_reducible rfl)
                try simp only [Act.put, List.setIfInBounds_toArray, List.set_cons_zero, List.set_cons_succ]
                refine wpAnyH_take (i := 5) (oi := { dst := some 98, op := Op.load 9 (Operand.tmp 97), type := 9, pos := "ref.go:165", after := #[{ on := 4, ground := Ground.data }], guard := none }) (v := ?_) rfl (by kernel_rfl) (by kernel_rfl) (by kernel_rfl) (fun _ _ _ h => h) (Or.inl ⟨by rfl, ?_⟩) (by assumption) ?_
                rotate_left
                · intro X hSw; have hq := (hSw.cell (p := ⟨b2, o2 + k * 2, none⟩) hbw2).trans hx2; go_simp; try (with_reducible rfl)
                try simp only [Act.put, List.setIfInBounds_toArray, List.set_cons_zero, List.set_cons_succ]
                refine wpAnyH_take (i := 6) (oi := { dst := some 99, op := Op.move (Operand.tmp 1), type := 34, pos := "ref.go:165", after := #[], guard := none }) (v := ?_) rfl (by kernel_rfl) (by kernel_rfl) (by kernel_rfl) (fun _ _ _ h => h) (Or.inl ⟨by rfl, ?_⟩) (by assumption) ?_
                rotate_left
                · intro X hSw; go_simp; try (with_reducible rfl)
                try simp only [Act.put, List.setIfInBounds_toArray, List.set_cons_zero, List.set_cons_succ]
                refine wpAnyH_take (i := 7) (oi := { dst := some 100, op := Op.move (Operand.tmp 7), type := 3, pos := "ref.go:165", after := #[], guard := none }) (v := ?_) rfl (by kernel_rfl) (by kernel_rfl) (by kernel_rfl) (fun _ _ _ h => h) (Or.inl ⟨by rfl, ?_⟩) (by assumption) ?_
                rotate_left
                · intro X hSw; go_simp; try (with_reducible rfl)
                try simp only [Act.put, List.setIfInBounds_toArray, List.set_cons_zero, List.set_cons_succ]
                refine wpAnyH_take (i := 8) (oi := { dst := some 101, op := Op.indexAddr 34 (Operand.tmp 99) (Operand.tmp 100), type := 0, pos := "ref.go:165", after := #[{ on := 6, ground := Ground.data }, { on := 7, ground := Ground.data }], guard := none }) (v := ?_) rfl (by kernel_rfl) (by kernel_rfl) (by kernel_rfl) (fun _ _ _ h => h) (Or.inl ⟨by rfl, ?_⟩) (by assumption) ?_
                rotate_left
                · intro X hSw; go_simp; try (with_reducible rfl)
                try simp only [Act.put, List.setIfInBounds_toArray, List.set_cons_zero, List.set_cons_succ]
                refine wpAnyH_take (i := 9) (oi := { dst := some 102, op := Op.fieldAddr 53 (Operand.tmp 101) 1, type := 0, pos := "ref.go:165", after := #[{ on := 8, ground := Ground.data }], guard := none }) (v := ?_) rfl (by kernel_rfl) (by kernel_rfl) (by kernel_rfl) (fun _ _ _ h => h) (Or.inl ⟨by rfl, ?_⟩) (by assumption) ?_
                rotate_left
                · intro X hSw; go_simp; try (with_reducible rfl)
                try simp only [Act.put, List.setIfInBounds_toArray, List.set_cons_zero, List.set_cons_succ]
                refine wpAnyH_take (i := 10) (oi := { dst := some 103, op := Op.load 23 (Operand.tmp 102), type := 23, pos := "ref.go:165", after := #[{ on := 9, ground := Ground.data }], guard := none }) (v := ?_) rfl (by kernel_rfl) (by kernel_rfl) (by kernel_rfl) (fun _ _ _ h => h) (Or.inl ⟨by rfl, ?_⟩) (by assumption) ?_
                rotate_left
                · intro X hSw; have hq := (hSw.cell (p := ⟨b2, o2 + k * 2 + 1, none⟩) hbw2).trans hy2; go_simp; try (with_reducible rfl)
                try simp only [Act.put, List.setIfInBounds_toArray, List.set_cons_zero, List.set_cons_succ]
                refine wpAnyH_take (i := 11) (oi := { dst := some 104, op := Op.build 51 #[(0, Operand.tmp 98), (1, Operand.tmp 103)], type := 51, pos := "ref.go:165", after := #[{ on := 5, ground := Ground.data }, { on := 10, ground := Ground.data }], guard := none }) (v := ?_) rfl (by kernel_rfl) (by kernel_rfl) (by kernel_rfl) (fun _ _ _ h => h) (Or.inl ⟨by rfl, ?_⟩) (by assumption) ?_
                rotate_left
                · intro X hSw; go_simp; try (with_reducible rfl)
                try simp only [Act.put, List.setIfInBounds_toArray, List.set_cons_zero, List.set_cons_succ]
                refine wpAnyH_ready (rs := [12]) (by kernel_rfl) (by simp) ?_
                refine AllReadyH.cons (o := { dst := some 105, op := Op.buildSlice 22 1 #[(0, Operand.tmp 104)], type := 22, pos := "ref.go:165", after := #[{ on := 11, ground := Ground.data }], guard := none }) rfl (fun K hK => ?_) AllReadyH.nil
                go_simp
                have hb6 := (Below.refl wd.heap.size wd).alloc (Nat.le_refl _) (Obj.cells #[.string ts[k].1, .slice Av nv cv, .bool false] 51)
                try (go_wp2_with fail)
                have hHeld' := hHeld.trans (hb6.mono hHeld.size)
                refine hK.out _ _ ?_ (fun _ => ?_)
                · exact hHeld'
                clear hK K hHeld
                have hHeld := hHeld'
                clear hHeld'
                try simp only [Act.put, List.setIfInBounds_toArray, List.set_cons_zero, List.set_cons_succ]
                refine wpAnyH_ready (rs := [13]) (by kernel_rfl) (by simp) ?_
                refine AllReadyH.cons (o := { dst := some 106, op := Op.call { callee := Callee.builtin Builtin.append, args := #[Operand.tmp 93, Operand.tmp 105], argTypes := #[22, 22] }, type := 22, pos := "ref.go:165", after := #[{ on := 0, ground := Ground.data }, { on := 12, ground := Ground.data }], guard := none }) rfl (fun K hK => ?_) AllReadyH.nil
                have hoA := own_below HOD.out hb6
                refine step_own rfl (.tmp 93) (.tmp 105) 22 22 rfl w.heap.size 51 (.agg #[.string ⟨#[]⟩, .slice none 0 0, .bool false]) 3 48 Try.underlying22 info51 rfl rfl hoA rfl (src_three _ rfl Try.underlying22 51 _ _ _ rfl rfl rfl) hHeld (Nat.le_refl _) ?_ ?_ ?_ ?_
                · unfold maxLen; omega
                · omega
                · exact hHeld.size
                intro v6 w6 ho6 hb7 _
                have HO6 := Lib.hid ho6
                clear ho6 hoA
                have hHeld' := hb7
                refine hK.out _ _ ?_ (fun _ => ?_)
                · exact hHeld'
                clear hK K hHeld
                have hHeld := hHeld'
                clear hHeld'
                try simp only [Act.put, List.setIfInBounds_toArray, List.set_cons_zero, List.set_cons_succ]
                refine wpAnyH_take (i := 14) (oi := { dst := some 5, op := Op.assign (Operand.tmp 106), type := 22, pos := "ref.go:165", after := #[{ on := 13, ground := Ground.data }, { on := 13, ground := Ground.chain }, { on := 0, ground := Ground.phase }, { on := 1, ground := Ground.phase }, { on := 2, ground := Ground.phase }, { on := 3, ground := Ground.phase }, { on := 4, ground := Ground.phase }, { on := 5, ground := Ground.phase }, { on := 6, ground := Ground.phase }, { on := 7, ground := Ground.phase }, { on := 8, ground := Ground.phase }, { on := 9, ground := Ground.phase }, { on := 10, ground := Ground.phase }, { on := 11, ground := Ground.phase }, { on := 12, ground := Ground.phase }, { on := 13, ground := Ground.phase }], guard := none }) (v := ?_) rfl (by kernel_rfl) (by kernel_rfl) (by kernel_rfl) (fun _ _ _ h => h) (Or.inl ⟨by rfl, ?_⟩) (by assumption) ?_
                rotate_left
                · intro X hSw; go_simp; try (with_reducible rfl)
                try simp only [Act.put, List.setIfInBounds_toArray, List.set_cons_zero, List.set_cons_succ]
                refine wpAnyH_done (by kernel_rfl) ?_ _
                have HB7 := Lib.hid hHeld
                clear hHeld
                go_wp2
                go_roundw
                case rel => exact ⟨k + 1, i, true, out ++ [putL ts[k]], us ++ [((ts[k].1, ts[k].2, false), .slice Av nv cv)], HDI.out, rfl, by go_num, by rw [List.length_append, chCells_snoc]; exact HO6.out, chs_push HFS.out HR2.out, by rw [List.map_append, HMP.out]; rfl, by rw [List.length_append, List.length_singleton]; omega, HB7.out⟩
                case measure => simp [intOf]; omega
        · have hke : ((k : Int) == (ts.length : Int)) = true := by rw [beq_iff_eq]; omega
          obtain ⟨hsome, hdi2⟩ := HI.out (fun h => absurd h hkt)
          clear HIO HI
          go_wp2
          go_quiet (fail)
          go_wp2_with fail
          refine (refFind_any _ ts fs[i].1 _ (rr_below HT.out (below_drewN HB.out nq) (Nat.le_refl _))).mono ?_
          rintro e w3 ⟨hr, hb3⟩
          have HB3 := Lib.hid ((below_drewN HB.out nq).trans (hb3.mono (below_drewN HB.out nq).size))
          have HO3 := Lib.hid (own_below (w := wr.drewN nq) HO.out hb3)
          clear hb3
          cases p with
          | true =>
            obtain ⟨⟨xk, xv⟩, hx⟩ := Option.isSome_iff_exists.1 hsome
            rw [hx] at hr
            simp only at hr
            obtain ⟨ux, rfl, hru⟩ := hr
            obtain ⟨Ax, cx, rfl⟩ := rb_shape hru
            obtain ⟨nx, hnx⟩ : ∃ nx, nx = xv.length := ⟨_, rfl⟩
            rw [← hnx] at hru ⊢
            have HDI := Lib.hid hdi2
            have HB4 := Lib.hid (HB3.out.alloc HB3.out.size (Obj.cells #[.string xk, .slice Ax nx cx] 53))
            have HO4 := Lib.hid (own_below HO3.out ((Below.refl _ _).alloc (Nat.le_refl _) (Obj.cells #[.string xk, .slice Ax nx cx] 53)))
            clear hdi2 hsome hx hru hnx
            go_wp2
            go_roundw
            case rel => exact ⟨i + 1, false, out, us, by simpa using HDI.out, by go_num, HO4.out, HFS.out, HMP.out, by omega, HB4.out⟩
            case measure => simp [intOf]; omega
          | false =>
            have hx : findR ts fs[i].1 = none := by simpa using hsome
            rw [hx] at hr
            simp only at hr
            subst hr
            have HDI := Lib.hid hdi2
            have HB4 := Lib.hid (HB3.out.alloc HB3.out.size (Obj.cells #[.string ⟨#[]⟩, .slice none 0 0] 53))
            have HO4 := Lib.hid (own_below HO3.out ((Below.refl _ _).alloc (Nat.le_refl _) (Obj.cells #[.string ⟨#[]⟩, .slice none 0 0] 53)))
            have hx4 := (HB4.out.cell (p := ⟨b1, o1 + i * 2, none⟩) hbw1).trans hx1
            have HB5 := Lib.hid (HB4.out.alloc HB4.out.size (Obj.cells #[.string fs[i].1, .slice none 0 0, .bool true] 51))
            have HO5 := Lib.hid (own_below HO4.out ((Below.refl _ _).alloc (Nat.le_refl _) (Obj.cells #[.string fs[i].1, .slice none 0 0, .bool true] 51)))
            clear hdi2 hsome hx
            go_wp2_with (at_builtin; refine wpList_own rfl (.tmp 53) (.tmp 60) 22 22 rfl w.heap.size 51 (.agg #[.string ⟨#[]⟩, .slice none 0 0, .bool false]) 3 48 Try.underlying22 info51 rfl rfl HO5.out rfl (src_three _ (by simp) Try.underlying22 51 _ _ _ rfl rfl rfl) HB5.out (Nat.le_refl _) ?_ ?_ ?_ ?_)
            · unfold maxLen; omega
            · omega
            · exact HB5.out.size
            intro v6 w6 ho6 hb6 _
            have HO6 := Lib.hid ho6
            have HB6 := Lib.hid hb6
            clear ho6 hb6 hx4
            go_wp2
            go_roundw
            case rel => exact ⟨i + 1, false, out ++ [goneL fs[i]], us ++ [((fs[i].1, [], true), .slice none 0 0)], by simpa using HDI.out, by go_num, by rw [List.length_append, chCells_snoc]; exact HO6.out, chs_push HFS.out (RB.nil_ _), by rw [List.map_append, HMP.out]; rfl, by rw [List.length_append, List.length_singleton]; omega, HB6.out⟩
            case measure => simp [intOf]; omega
      · have q4 : ¬ (i : Int) < fs.length := by omega
        have HIO := Lib.hid (HD.out.outer hsf hst)
        by_cases hkt : k < ts.length
        · obtain ⟨b2, o2, u2, rfl, hx2, hy2, hr2⟩ := rr_at HT.out hkt
          have hbw2 : b2 < w.heap.size := block_lt_of_cell hx2
          have hx2' := (HB.out.cell (p := ⟨b2, o2 + k * 2, none⟩) hbw2).trans hx2
          have hx2d := fun j => (show (wr.drewN j).cell? ⟨b2, o2 + k * 2, none⟩ = _ from hx2')
          have q5 : (k : Int) < ts.length := by omega
          have hke : ((k : Int) == (ts.length : Int)) = false := by rw [beq_eq_false_iff_ne]; omega
          obtain ⟨hso, hno⟩ := HIO.out hkt (fun h => absurd h hif)
          clear HIO
          go_wp2
          go_quiet (fail)
          go_wp2_with fail
          refine (refFind_any _ fs ts[k].1 _ (rr_below HF.out (below_drewN HB.out nq) (Nat.le_refl _))).mono ?_
          rintro e w3 ⟨hr, hb3⟩
          have HB3 := Lib.hid ((below_drewN HB.out nq).trans (hb3.mono (below_drewN HB.out nq).size))
          have HO3 := Lib.hid (own_below (w := wr.drewN nq) HO.out hb3)
          cases hfd : findR fs ts[k].1 with
          | none =>
            have HDI := Lib.hid (hno hfd)
            rw [hfd] at hr
            simp only at hr
            subst hr
            have HB4 := Lib.hid (HB3.out.alloc HB3.out.size (Obj.cells #[.string ⟨#[]⟩, .slice none 0 0] 53))
            have HO4 := Lib.hid (own_below HO3.out ((Below.refl _ _).alloc (Nat.le_refl _) (Obj.cells #[.string ⟨#[]⟩, .slice none 0 0] 53)))
            clear hso hno hfd hb3
            go_wp2
            generalize w3.alloc (Obj.cells #[.string ⟨#[]⟩, .slice none 0 0] 53) = w4 at *
            go_quiet (fail)
            have HB5 := Lib.hid (below_drewN HB4.out nq)
            have HO5 := Lib.hid (show (w4.drewN nq).ownsRow _ _ _ _ _ _ from HO4.out)
            generalize w4.drewN nq = w5 at *
            clear HB4 HO4
            obtain ⟨Av, cv, hus2⟩ := rb_shape hr2
            have HR2 := Lib.hid hr2
            obtain ⟨nv, hnv⟩ : ∃ nv, nv = ts[k].2.length := ⟨_, rfl⟩
            rw [← hnv] at hus2
            subst hus2
            clear hnv hr2
            go_wp2
            refine wp_region_held_drew (S := fun X => Below w.heap.size w X) (by kernel_rfl) HB5.out.drew (fun hHeld => ?_)
            have HOD := Lib.hid (show w5.drew.ownsRow _ _ _ _ _ _ from HO5.out)
            generalize w5.drew = wd at *
            refine wpAnyH_take (i := 0) (oi := { dst := some 93, op := Op.move (Operand.tmp 5), type := 22, pos := "ref.go:165", after := #[], guard := none }) (v := ?_) rfl (by kernel_rfl) (by kernel_rfl) (by kernel_rfl) (fun _ _ _ h => h) (Or.inl ⟨by rfl, ?_⟩) (by assumption) ?_
            rotate_left
            · intro X hSw; go_simp; try (with_reducible rfl)
            try simp only [Act.put, List.setIfInBounds_toArray, List.set_cons_zero, List.set_cons_succ]
            refine wpAnyH_take (i := 1) (oi := { dst := some 94, op := Op.move (Operand.tmp 1), type := 34, pos := "ref.go:165", after := #[], guard := none }) (v := ?_) rfl (by kernel_rfl) (by kernel_rfl) (by kernel_rfl) (fun _ _ _ h => h) (Or.inl ⟨by rfl, ?_⟩) (by assumption) ?_
            rotate_left
            · intro X hSw; go_simp; try (with_reducible rfl)
            try simp only [Act.put, List.setIfInBounds_toArray, List.set_cons_zero, List.set_cons_succ]
            refine wpAnyH_take (i := 2) (oi := { dst := some 95, op := Op.move (Operand.tmp 7), type := 3, pos := "ref.go:165", after := #[], guard := none }) (v := ?_) rfl (by kernel_rfl) (by kernel_rfl) (by kernel_rfl) (fun _ _ _ h => h) (Or.inl ⟨by rfl, ?_⟩) (by assumption) ?_
            rotate_left
            · intro X hSw; go_simp; try (with_reducible rfl)
            try simp only [Act.put, List.setIfInBounds_toArray, List.set_cons_zero, List.set_cons_succ]
            refine wpAnyH_take (i := 3) (oi := { dst := some 96, op := Op.indexAddr 34 (Operand.tmp 94) (Operand.tmp 95), type := 0, pos := "ref.go:165", after := #[{ on := 1, ground := Ground.data }, { on := 2, ground := Ground.data }], guard := none }) (v := ?_) rfl (by kernel_rfl) (by kernel_rfl) (by kernel_rfl) (fun _ _ _ h => h) (Or.inl ⟨by rfl, ?_⟩) (by assumption) ?_
            rotate_left
            · intro X hSw; go_simp; try (with_reducible rfl)
            try simp only [Act.put, List.setIfInBounds_toArray, List.set_cons_zero, List.set_cons_succ]
            refine wpAnyH_take (i := 4) (oi := { dst := some 97, op := Op.fieldAddr 53 (Operand.tmp 96) 0, type := 0, pos := "ref.go:165", after := #[{ on := 3, ground := Ground.data }], guard := none }) (v := ?_) rfl (by kernel_rfl) (by kernel_rfl) (by kernel_rfl) (fun _ _ _ h => h) (Or.inl ⟨by rfl, ?_⟩) (by assumption) ?_
            rotate_left
            · intro X hSw; go_simp; try (with_reducible rfl)
            try simp only [Act.put, List.setIfInBounds_toArray, List.set_cons_zero, List.set_cons_succ]
            refine wpAnyH_take (i := 5) (oi := { dst := some 98, op := Op.load 9 (Operand.tmp 97), type := 9, pos := "ref.go:165", after := #[{ on := 4, ground := Ground.data }], guard := none }) (v := ?_) rfl (by kernel_rfl) (by kernel_rfl) (by kernel_rfl) (fun _ _ _ h => h) (Or.inl ⟨by rfl, ?_⟩) (by assumption) ?_
            rotate_left
            · intro X hSw; have hq := (hSw.cell (p := ⟨b2, o2 + k * 2, none⟩) hbw2).trans hx2; go_simp; try (with_reducible rfl)
            try simp only [Act.put, List.setIfInBounds_toArray, List.set_cons_zero, List.set_cons_succ]
            refine wpAnyH_take (i := 6) (oi := { dst := some 99, op := Op.move (Operand.tmp 1), type := 34, pos := "ref.go:165", after := #[], guard := none }) (v := ?_) rfl (by kernel_rfl) (by kernel_rfl) (by kernel_rfl) (fun _ _ _ h => h) (Or.inl ⟨by rfl, ?_⟩) (by assumption) ?_
            rotate_left
            · intro X hSw; go_simp; try (with_reducible rfl)
            try simp only [Act.put, List.setIfInBounds_toArray, List.set_cons_zero, List.set_cons_succ]
            refine wpAnyH_take (i := 7) (oi := { dst := some 100, op := Op.move (Operand.tmp 7), type := 3, pos := "ref.go:165", after := #[], guard := none }) (v := ?_) rfl (by kernel_rfl) (by kernel_rfl) (by kernel_rfl) (fun _ _ _ h => h) (Or.inl ⟨by rfl, ?_⟩) (by assumption) ?_
            rotate_left
            · intro X hSw; go_simp; try (with_reducible rfl)
            try simp only [Act.put, List.setIfInBounds_toArray, List.set_cons_zero, List.set_cons_succ]
            refine wpAnyH_take (i := 8) (oi := { dst := some 101, op := Op.indexAddr 34 (Operand.tmp 99) (Operand.tmp 100), type := 0, pos := "ref.go:165", after := #[{ on := 6, ground := Ground.data }, { on := 7, ground := Ground.data }], guard := none }) (v := ?_) rfl (by kernel_rfl) (by kernel_rfl) (by kernel_rfl) (fun _ _ _ h => h) (Or.inl ⟨by rfl, ?_⟩) (by assumption) ?_
            rotate_left
            · intro X hSw; go_simp; try (with_reducible rfl)
            try simp only [Act.put, List.setIfInBounds_toArray, List.set_cons_zero, List.set_cons_succ]
            refine wpAnyH_take (i := 9) (oi := { dst := some 102, op := Op.fieldAddr 53 (Operand.tmp 101) 1, type := 0, pos := "ref.go:165", after := #[{ on := 8, ground := Ground.data }], guard := none }) (v := ?_) rfl (by kernel_rfl) (by kernel_rfl) (by kernel_rfl) (fun _ _ _ h => h) (Or.inl ⟨by rfl, ?_⟩) (by assumption) ?_
            rotate_left
            · intro X hSw; go_simp; try (with_reducible rfl)
            try simp only [Act.put, List.setIfInBounds_toArray, List.set_cons_zero, List.set_cons_succ]
            refine wpAnyH_take (i := 10) (oi := { dst := some 103, op := Op.load 23 (Operand.tmp 102), type := 23, pos := "ref.go:165", after := #[{ on := 9, ground := Ground.data }], guard := none }) (v := ?_) rfl (by kernel_rfl) (by kernel_rfl) (by kernel_rfl) (fun _ _ _ h => h) (Or.inl ⟨by rfl, ?_⟩) (by assumption) ?_
            rotate_left
            · intro X hSw; have hq := (hSw.cell (p := ⟨b2, o2 + k * 2 + 1, none⟩) hbw2).trans hy2; go_simp; try (with_reducible rfl)
            try simp only [Act.put, List.setIfInBounds_toArray, List.set_cons_zero, List.set_cons_succ]
            refine wpAnyH_take (i := 11) (oi := { dst := some 104, op := Op.build 51 #[(0, Operand.tmp 98), (1, Operand.tmp 103)], type := 51, pos := "ref.go:165", after := #[{ on := 5, ground := Ground.data }, { on := 10, ground := Ground.data }], guard := none }) (v := ?_) rfl (by kernel_rfl) (by kernel_rfl) (by kernel_rfl) (fun _ _ _ h => h) (Or.inl ⟨by rfl, ?_⟩) (by assumption) ?_
            rotate_left
            · intro X hSw; go_simp; try (with_reducible rfl)
            try simp only [Act.put, List.setIfInBounds_toArray, List.set_cons_zero, List.set_cons_succ]
            refine wpAnyH_ready (rs := [12]) (by kernel_rfl) (by simp) ?_
            refine AllReadyH.cons (o := { dst := some 105, op := Op.buildSlice 22 1 #[(0, Operand.tmp 104)], type := 22, pos := "ref.go:165", after := #[{ on := 11, ground := Ground.data }], guard := none }) rfl (fun K hK => ?_) AllReadyH.nil
            go_simp
            have hb6 := (Below.refl wd.heap.size wd).alloc (Nat.le_refl _) (Obj.cells #[.string ts[k].1, .slice Av nv cv, .bool false] 51)
            try (go_wp2_with fail)
            have hHeld' := hHeld.trans (hb6.mono hHeld.size)
            refine hK.out _ _ ?_ (fun _ => ?_)
            · exact hHeld'
            clear hK K hHeld
            have hHeld := hHeld'
            clear hHeld'
            try simp only [Act.put, List.setIfInBounds_toArray, List.set_cons_zero, List.set_cons_succ]
            refine wpAnyH_ready (rs := [13]) (by kernel_rfl) (by simp) ?_
            refine AllReadyH.cons (o := { dst := some 106, op := Op.call { callee := Callee.builtin Builtin.append, args := #[Operand.tmp 93, Operand.tmp 105], argTypes := #[22, 22] }, type := 22, pos := "ref.go:165", after := #[{ on := 0, ground := Ground.data }, { on := 12, ground := Ground.data }], guard := none }) rfl (fun K hK => ?_) AllReadyH.nil
            have hoA := own_below HOD.out hb6
            refine step_own rfl (.tmp 93) (.tmp 105) 22 22 rfl w.heap.size 51 (.agg #[.string ⟨#[]⟩, .slice none 0 0, .bool false]) 3 48 Try.underlying22 info51 rfl rfl hoA rfl (src_three _ rfl Try.underlying22 51 _ _ _ rfl rfl rfl) hHeld (Nat.le_refl _) ?_ ?_ ?_ ?_
            · unfold maxLen; omega
            · omega
            · exact hHeld.size
            intro v6 w6 ho6 hb7 _
            have HO6 := Lib.hid ho6
            clear ho6 hoA
            have hHeld' := hb7
            refine hK.out _ _ ?_ (fun _ => ?_)
            · exact hHeld'
            clear hK K hHeld
            have hHeld := hHeld'
            clear hHeld'
            try simp only [Act.put, List.setIfInBounds_toArray, List.set_cons_zero, List.set_cons_succ]
            refine wpAnyH_take (i := 14) (oi := { dst := some 5, op := Op.assign (Operand.tmp 106), type := 22, pos := "ref.go:165", after := #[{ on := 13, ground := Ground.data }, { on := 13, ground := Ground.chain }, { on := 0, ground := Ground.phase }, { on := 1, ground := Ground.phase }, { on := 2, ground := Ground.phase }, { on := 3, ground := Ground.phase }, { on := 4, ground := Ground.phase }, { on := 5, ground := Ground.phase }, { on := 6, ground := Ground.phase }, { on := 7, ground := Ground.phase }, { on := 8, ground := Ground.phase }, { on := 9, ground := Ground.phase }, { on := 10, ground := Ground.phase }, { on := 11, ground := Ground.phase }, { on := 12, ground := Ground.phase }, { on := 13, ground := Ground.phase }], guard := none }) (v := ?_) rfl (by kernel_rfl) (by kernel_rfl) (by kernel_rfl) (fun _ _ _ h => h) (Or.inl ⟨by rfl, ?_⟩) (by assumption) ?_
            rotate_left
            · intro X hSw; go_simp; try (with_reducible rfl)
            try simp only [Act.put, List.setIfInBounds_toArray, List.set_cons_zero, List.set_cons_succ]
            refine wpAnyH_done (by kernel_rfl) ?_ _
            have HB7 := Lib.hid hHeld
            clear hHeld
            go_wp2
            go_roundw
            case rel => exact ⟨k + 1, i, false, out ++ [putL ts[k]], us ++ [((ts[k].1, ts[k].2, false), .slice Av nv cv)], HDI.out, rfl, by go_num, by rw [List.length_append, chCells_snoc]; exact HO6.out, chs_push HFS.out HR2.out, by rw [List.map_append, HMP.out]; rfl, by rw [List.length_append, List.length_singleton]; omega, HB7.out⟩
            case measure => simp [intOf]; omega
          | some x =>
            obtain ⟨xk, xv⟩ := x
            obtain ⟨hs1, hs2⟩ := hso _ hfd
            rw [hfd] at hr
            simp only at hr hs1 hs2
            obtain ⟨ux, rfl, hru⟩ := hr
            obtain ⟨Ax, cx, rfl⟩ := rb_shape hru
            obtain ⟨nx, hnx⟩ : ∃ nx, nx = xv.length := ⟨_, rfl⟩
            rw [← hnx] at hru ⊢
            have HB4 := Lib.hid (HB3.out.alloc HB3.out.size (Obj.cells #[.string xk, .slice Ax nx cx] 53))
            have HO4 := Lib.hid (own_below HO3.out ((Below.refl _ _).alloc (Nat.le_refl _) (Obj.cells #[.string xk, .slice Ax nx cx] 53)))
            have HR4 := Lib.hid ((hru.below hb3).below ((Below.refl _ _).alloc (Nat.le_refl _) (Obj.cells #[.string xk, .slice Ax nx cx] 53)))
            have HRC := Lib.hid (show (w3.alloc (Obj.cells #[.string xk, .slice Ax nx cx] 53)).cell? ⟨w3.heap.size, 1, none⟩ = some (.slice Ax nx cx) from (cell_of_row _ _ 1 _ _ _ (heap_alloc_new w3 _)).trans rfl)
            have HR2B := Lib.hid (hr2.below HB4.out)
            clear hso hno hfd hb3 hru hnx
            go_wp2
            generalize w3.alloc (Obj.cells #[.string xk, .slice Ax nx cx] 53) = w4 at *
            have hcs1 := fun (j : Nat) => str22 (HR4.out.keep (w' := w4.drewN j) (Nat.le_refl _) (fun _ _ _ => rfl))
            have hcs2 := fun (j : Nat) => str22 (HR2B.out.keep (w' := w4.drewN j) (Nat.le_refl _) (fun _ _ _ => rfl))
            have hrc4 := fun j => (show (w4.drewN j).cell? ⟨w3.heap.size, 1, none⟩ = _ from HRC.out)
            have hy4 := fun j => (show (w4.drewN j).cell? ⟨b2, o2 + k * 2 + 1, none⟩ = _ from (HB4.out.cell (p := ⟨b2, o2 + k * 2 + 1, none⟩) hbw2).trans hy2)
            by_cases hvv : xv = ts[k].2
            · have HDI := Lib.hid (hs1 hvv)
              rw [hvv] at hcs1
              clear hs1 hs2 hvv
              go_quiet (fail)
              have HB5 := Lib.hid (below_drewN HB4.out nq)
              have HO5 := Lib.hid (show (w4.drewN nq).ownsRow _ _ _ _ _ _ from HO4.out)
              generalize w4.drewN nq = w5 at *
              clear HB4 HO4 hcs1 hcs2 hrc4 hy4
              go_wp2
              go_roundw
              case rel => exact ⟨k + 1, i, true, out, us, HDI.out, rfl, by go_num, HO5.out, HFS.out, HMP.out, by omega, HB5.out⟩
              case measure => simp [intOf]; omega
            · have HDI := Lib.hid (hs2 hvv)
              have hv1 : ((⟨xv.toArray⟩ : ByteArray).toList != (⟨ts[k].2.toArray⟩ : ByteArray).toList) = true := bne_iff_ne.2 (ba_neL (ba_ne hvv))
              have hv2 : ((⟨xv.toArray⟩ : ByteArray).toList == (⟨ts[k].2.toArray⟩ : ByteArray).toList) = false := beq_eq_false_iff_ne.2 (ba_neL (ba_ne hvv))
              generalize (⟨xv.toArray⟩ : ByteArray) = z1 at *
              generalize (⟨ts[k].2.toArray⟩ : ByteArray) = z2 at *
              clear hs1 hs2 hvv
              go_quiet (fail)
              have HB5 := Lib.hid (below_drewN HB4.out nq)
              have HO5 := Lib.hid (show (w4.drewN nq).ownsRow _ _ _ _ _ _ from HO4.out)
              generalize w4.drewN nq = w5 at *
              clear HB4 HO4 hcs1 hcs2 hrc4 hy4 hv1 hv2
              obtain ⟨Av, cv, hus2⟩ := rb_shape hr2
              have HR2 := Lib.hid hr2
              obtain ⟨nv, hnv⟩ : ∃ nv, nv = ts[k].2.length := ⟨_, rfl⟩
              rw [← hnv] at hus2
              subst hus2
              clear hnv hr2
              go_wp2
              refine wp_region_held_drew (S := fun X => Below w.heap.size w X) (by kernel_rfl) HB5.out.drew (fun hHeld => ?_)
              have HOD := Lib.hid (show w5.drew.ownsRow _ _ _ _ _ _ from HO5.out)
              generalize w5.drew = wd at *
              refine wpAnyH_take (i := 0) (oi := { dst := some 93, op := Op.move (Operand.tmp 5), type := 22, pos := "ref.go:165", after := #[], guard := none }) (v := ?_) rfl (by kernel_rfl) (by kernel_rfl) (by kernel_rfl) (fun _ _ _ h => h) (Or.inl ⟨by rfl, ?_⟩) (by assumption) ?_
              rotate_left
              · intro X hSw; go_simp; try (with_reducible rfl)
              try simp only [Act.put, List.setIfInBounds_toArray, List.set_cons_zero, List.set_cons_succ]
              refine wpAnyH_take (i := 1) (oi := { dst := some 94, op := Op.move (Operand.tmp 1), type := 34, pos := "ref.go:165", after := #[], guard := none }) (v := ?_) rfl (by kernel_rfl) (by kernel_rfl) (by kernel_rfl) (fun _ _ _ h => h) (Or.inl ⟨by rfl, ?_⟩) (by assumption) ?_
              rotate_left
              · intro X hSw; go_simp; try (with_reducible rfl)
              try simp only [Act.put, List.setIfInBounds_toArray, List.set_cons_zero, List.set_cons_succ]
              refine wpAnyH_take (i := 2) (oi := { dst := some 95, op := Op.move (Operand.tmp 7), type := 3, pos := "ref.go:165", after := #[], guard := none }) (v := ?_) rfl (by kernel_rfl) (by kernel_rfl) (by kernel_rfl) (fun _ _ _ h => h) (Or.inl ⟨by rfl, ?_⟩) (by assumption) ?_
              rotate_left
              · intro X hSw; go_simp; try (with_reducible rfl)
              try simp only [Act.put, List.setIfInBounds_toArray, List.set_cons_zero, List.set_cons_succ]
              refine wpAnyH_take (i := 3) (oi := { dst := some 96, op := Op.indexAddr 34 (Operand.tmp 94) (Operand.tmp 95), type := 0, pos := "ref.go:165", after := #[{ on := 1, ground := Ground.data }, { on := 2, ground := Ground.data }], guard := none }) (v := ?_) rfl (by kernel_rfl) (by kernel_rfl) (by kernel_rfl) (fun _ _ _ h => h) (Or.inl ⟨by rfl, ?_⟩) (by assumption) ?_
              rotate_left
              · intro X hSw; go_simp; try (with_reducible rfl)
              try simp only [Act.put, List.setIfInBounds_toArray, List.set_cons_zero, List.set_cons_succ]
              refine wpAnyH_take (i := 4) (oi := { dst := some 97, op := Op.fieldAddr 53 (Operand.tmp 96) 0, type := 0, pos := "ref.go:165", after := #[{ on := 3, ground := Ground.data }], guard := none }) (v := ?_) rfl (by kernel_rfl) (by kernel_rfl) (by kernel_rfl) (fun _ _ _ h => h) (Or.inl ⟨by rfl, ?_⟩) (by assumption) ?_
              rotate_left
              · intro X hSw; go_simp; try (with_reducible rfl)
              try simp only [Act.put, List.setIfInBounds_toArray, List.set_cons_zero, List.set_cons_succ]
              refine wpAnyH_take (i := 5) (oi := { dst := some 98, op := Op.load 9 (Operand.tmp 97), type := 9, pos := "ref.go:165", after := #[{ on := 4, ground := Ground.data }], guard := none }) (v := ?_) rfl (by kernel_rfl) (by kernel_rfl) (by kernel_rfl) (fun _ _ _ h => h) (Or.inl ⟨by rfl, ?_⟩) (by assumption) ?_
              rotate_left
              · intro X hSw; have hq := (hSw.cell (p := ⟨b2, o2 + k * 2, none⟩) hbw2).trans hx2; go_simp; try (with_reducible rfl)
              try simp only [Act.put, List.setIfInBounds_toArray, List.set_cons_zero, List.set_cons_succ]
              refine wpAnyH_take (i := 6) (oi := { dst := some 99, op := Op.move (Operand.tmp 1), type := 34, pos := "ref.go:165", after := #[], guard := none }) (v := ?_) rfl (by kernel_rfl) (by kernel_rfl) (by kernel_rfl) (fun _ _ _ h => h) (Or.inl ⟨by rfl, ?_⟩) (by assumption) ?_
              rotate_left
              · intro X hSw; go_simp; try (with_reducible rfl)
              try simp only [Act.put, List.setIfInBounds_toArray, List.set_cons_zero, List.set_cons_succ]
              refine wpAnyH_take (i := 7) (oi := { dst := some 100, op := Op.move (Operand.tmp 7), type := 3, pos := "ref.go:165", after := #[], guard := none }) (v := ?_) rfl (by kernel_rfl) (by kernel_rfl) (by kernel_rfl) (fun _ _ _ h => h) (Or.inl ⟨by rfl, ?_⟩) (by assumption) ?_
              rotate_left
              · intro X hSw; go_simp; try (with_reducible rfl)
              try simp only [Act.put, List.setIfInBounds_toArray, List.set_cons_zero, List.set_cons_succ]
              refine wpAnyH_take (i := 8) (oi := { dst := some 101, op := Op.indexAddr 34 (Operand.tmp 99) (Operand.tmp 100), type := 0, pos := "ref.go:165", after := #[{ on := 6, ground := Ground.data }, { on := 7, ground := Ground.data }], guard := none }) (v := ?_) rfl (by kernel_rfl) (by kernel_rfl) (by kernel_rfl) (fun _ _ _ h => h) (Or.inl ⟨by rfl, ?_⟩) (by assumption) ?_
              rotate_left
              · intro X hSw; go_simp; try (with_reducible rfl)
              try simp only [Act.put, List.setIfInBounds_toArray, List.set_cons_zero, List.set_cons_succ]
              refine wpAnyH_take (i := 9) (oi := { dst := some 102, op := Op.fieldAddr 53 (Operand.tmp 101) 1, type := 0, pos := "ref.go:165", after := #[{ on := 8, ground := Ground.data }], guard := none }) (v := ?_) rfl (by kernel_rfl) (by kernel_rfl) (by kernel_rfl) (fun _ _ _ h => h) (Or.inl ⟨by rfl, ?_⟩) (by assumption) ?_
              rotate_left
              · intro X hSw; go_simp; try (with_reducible rfl)
              try simp only [Act.put, List.setIfInBounds_toArray, List.set_cons_zero, List.set_cons_succ]
              refine wpAnyH_take (i := 10) (oi := { dst := some 103, op := Op.load 23 (Operand.tmp 102), type := 23, pos := "ref.go:165", after := #[{ on := 9, ground := Ground.data }], guard := none }) (v := ?_) rfl (by kernel_rfl) (by kernel_rfl) (by kernel_rfl) (fun _ _ _ h => h) (Or.inl ⟨by rfl, ?_⟩) (by assumption) ?_
              rotate_left
              · intro X hSw; have hq := (hSw.cell (p := ⟨b2, o2 + k * 2 + 1, none⟩) hbw2).trans hy2; go_simp; try (with_reducible rfl)
              try simp only [Act.put, List.setIfInBounds_toArray, List.set_cons_zero, List.set_cons_succ]
              refine wpAnyH_take (i := 11) (oi := { dst := some 104, op := Op.build 51 #[(0, Operand.tmp 98), (1, Operand.tmp 103)], type := 51, pos := "ref.go:165", after := #[{ on := 5, ground := Ground.data }, { on := 10, ground := Ground.data }], guard := none }) (v := ?_) rfl (by kernel_rfl) (by kernel_rfl) (by kernel_rfl) (fun _ _ _ h => h) (Or.inl ⟨by rfl, ?_⟩) (by assumption) ?_
              rotate_left
              · intro X hSw; go_simp; try (with_reducible rfl)
              try simp only [Act.put, List.setIfInBounds_toArray, List.set_cons_zero, List.set_cons_succ]
              refine wpAnyH_ready (rs := [12]) (by kernel_rfl) (by simp) ?_
              refine AllReadyH.cons (o := { dst := some 105, op := Op.buildSlice 22 1 #[(0, Operand.tmp 104)], type := 22, pos := "ref.go:165", after := #[{ on := 11, ground := Ground.data }], guard := none }) rfl (fun K hK => ?_) AllReadyH.nil
              go_simp
              have hb6 := (Below.refl wd.heap.size wd).alloc (Nat.le_refl _) (Obj.cells #[.string ts[k].1, .slice Av nv cv, .bool false] 51)
              try (go_wp2_with fail)
              have hHeld' := hHeld.trans (hb6.mono hHeld.size)
              refine hK.out _ _ ?_ (fun _ => ?_)
              · exact hHeld'
              clear hK K hHeld
              have hHeld := hHeld'
              clear hHeld'
              try simp only [Act.put, List.setIfInBounds_toArray, List.set_cons_zero, List.set_cons_succ]
              refine wpAnyH_ready (rs := [13]) (by kernel_rfl) (by simp) ?_
              refine AllReadyH.cons (o := { dst := some 106, op := Op.call { callee := Callee.builtin Builtin.append, args := #[Operand.tmp 93, Operand.tmp 105], argTypes := #[22, 22] }, type := 22, pos := "ref.go:165", after := #[{ on := 0, ground := Ground.data }, { on := 12, ground := Ground.data }], guard := none }) rfl (fun K hK => ?_) AllReadyH.nil
              have hoA := own_below HOD.out hb6
              refine step_own rfl (.tmp 93) (.tmp 105) 22 22 rfl w.heap.size 51 (.agg #[.string ⟨#[]⟩, .slice none 0 0, .bool false]) 3 48 Try.underlying22 info51 rfl rfl hoA rfl (src_three _ rfl Try.underlying22 51 _ _ _ rfl rfl rfl) hHeld (Nat.le_refl _) ?_ ?_ ?_ ?_
              · unfold maxLen; omega
              · omega
              · exact hHeld.size
              intro v6 w6 ho6 hb7 _
              have HO6 := Lib.hid ho6
              clear ho6 hoA
              have hHeld' := hb7
              refine hK.out _ _ ?_ (fun _ => ?_)
              · exact hHeld'
              clear hK K hHeld
              have hHeld := hHeld'
              clear hHeld'
              try simp only [Act.put, List.setIfInBounds_toArray, List.set_cons_zero, List.set_cons_succ]
              refine wpAnyH_take (i := 14) (oi := { dst := some 5, op := Op.assign (Operand.tmp 106), type := 22, pos := "ref.go:165", after := #[{ on := 13, ground := Ground.data }, { on := 13, ground := Ground.chain }, { on := 0, ground := Ground.phase }, { on := 1, ground := Ground.phase }, { on := 2, ground := Ground.phase }, { on := 3, ground := Ground.phase }, { on := 4, ground := Ground.phase }, { on := 5, ground := Ground.phase }, { on := 6, ground := Ground.phase }, { on := 7, ground := Ground.phase }, { on := 8, ground := Ground.phase }, { on := 9, ground := Ground.phase }, { on := 10, ground := Ground.phase }, { on := 11, ground := Ground.phase }, { on := 12, ground := Ground.phase }, { on := 13, ground := Ground.phase }], guard := none }) (v := ?_) rfl (by kernel_rfl) (by kernel_rfl) (by kernel_rfl) (fun _ _ _ h => h) (Or.inl ⟨by rfl, ?_⟩) (by assumption) ?_
              rotate_left
              · intro X hSw; go_simp; try (with_reducible rfl)
              try simp only [Act.put, List.setIfInBounds_toArray, List.set_cons_zero, List.set_cons_succ]
              refine wpAnyH_done (by kernel_rfl) ?_ _
              have HB7 := Lib.hid hHeld
              clear hHeld
              go_wp2
              go_roundw
              case rel => exact ⟨k + 1, i, true, out ++ [putL ts[k]], us ++ [((ts[k].1, ts[k].2, false), .slice Av nv cv)], HDI.out, rfl, by go_num, by rw [List.length_append, chCells_snoc]; exact HO6.out, chs_push HFS.out HR2.out, by rw [List.map_append, HMP.out]; rfl, by rw [List.length_append, List.length_singleton]; omega, HB7.out⟩
              case measure => simp [intOf]; omega
        · have hke : ((k : Int) == (ts.length : Int)) = true := by rw [beq_iff_eq]; omega
          have hkk : k = ts.length := by omega
          have hd := HD.out
          rw [hkk] at hd
          have HDN := Lib.hid (hd.done (by omega))
          clear hd hkk
          go_wp2
          go_quiet (fail)
          go_wp2
          go_ret
          have hrc := rc_own (w' := wr.drewN nq) HO.out HFS.out (below_drewN HB.out nq)
          rw [HMP.out, HDN.out] at hrc
          exact ⟨_, rfl, hrc, below_drewN HB.out nq⟩
end Go.Proofs.Ytomkbgghljcbfaa
