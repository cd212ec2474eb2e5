/-
  DevCopy returns true, and changes nothing that was there, for every byte and all deeds.
-/
import Derived.Test.YtpaahbohbnfibaaBunTwo
namespace Go.Proofs.Ytpaahbohbnfibaa
open Go.RowKit Go.Rst Go.Dv
/-- Behind k deeds of the copy. -/
def Inv2 (H g6 gE : Nat) (w : World) (d t : Value) (s1 : Sim) (tc : Array Value) (v : Value) (k : Nat) : Prop :=
  ∃ (s : Sim) (aS : Option Addr) (nS cS : Nat) (aL : Option Addr) (nL cL : Nat) (a1 a2 : Int) (a3 : Bool) (a4 : Int),
    Bun2 H (fun k => k = gE ∨ k = g6) w d t s1 v (.agg #[.slice aS nS cS, .slice aL nL cL, .int .i64 a1, .int .i64 a2, .bool a3, .int .i64 a4]) s ∧ Blk w gE 38 #[.slice aS nS cS, .slice aL nL cL, .int .i64 a1, .int .i64 a2, .bool a3, .int .i64 a4] ∧ Blk w g6 38 tc ∧ s.nw ≤ 60 + k ∧ s.nf ≤ 60 + k
set_option maxRecDepth 100000 in
set_option maxHeartbeats 6000000 in
theorem copy_walk (n : Nat) (v : Value) (l : List Deed) (v2 : Value) (ll : List Deed) (W : World) (hn : n ≤ 255) (hv : DS W v l) (hv2 : DS W v2 ll) :
    Calls Try.prog 6 #[.int .u8 (n : Int), v, v2] W fun e w' => e = .returned (.bool true) ∧ Below W.heap.size W w' := by
  have HV := Lib.hid hv
  have HV2 := Lib.hid hv2
  obtain ⟨A, c, rfl, _, _⟩ := hv
  obtain ⟨Ab, cb, rfl, _, _⟩ := hv2
  obtain ⟨m, hm⟩ : ∃ m, m = l.length := ⟨_, rfl⟩
  obtain ⟨m2, hm2⟩ : ∃ m2, m2 = ll.length := ⟨_, rfl⟩
  rw [← hm] at HV ⊢
  rw [← hm2] at HV2 ⊢
  have HM := Lib.hid hm
  have HM2 := Lib.hid hm2
  clear hm hm2
  obtain ⟨n9, hn9⟩ : ∃ n9, n9 = n % 9 := ⟨_, rfl⟩
  have n0 : (0 : Int) ≤ (n : Int) := by omega
  have n1 : (n : Int) % 9 = (n9 : Int) := by omega
  have n2 : (n : Int).tmod 9 = (n9 : Int) := by rw [Int.tmod_eq_emod_of_nonneg (by omega)]; omega
  have n3 : IntKind.i64.wrap (n9 : Int) = (n9 : Int) := by rw [IntKind.wrap_i64]; omega
  have N9 := Lib.hid (show n9 ≤ 4096 by omega)
  clear hn9
  go_enter Try.func6, Try.ntmps6
  go_wp2_with fail
  go_at_call 16
  refine (much_any HV.out).mono ?_
  rintro e w1 ⟨r, rfl, hr, hb1⟩
  rw [← HM.out] at hr
  have HB1 := Lib.hid hb1
  have HR := Lib.hid hr
  clear hb1 hr
  cases r with
  | true =>
    go_wp2_with fail
    go_at_call 10
    refine (known_any _).mono ?_
    rintro e w2 ⟨rfl, hb⟩
    have HB2 := Lib.hid (HB1.out.trans (hb.mono HB1.out.size))
    clear hb
    go_wp2
    go_ret
    exact ⟨rfl, HB2.out⟩
  | false =>
  have hm60 : m ≤ 60 := HR.out rfl
  go_wp2_with fail
  go_at_call 16
  refine (much_any (HV2.out.below HB1.out)).mono ?_
  rintro e w1b ⟨r, rfl, hr, hb1⟩
  rw [← HM2.out] at hr
  have HB1 := Lib.hid (HB1.out.trans (hb1.mono HB1.out.size))
  have HRb := Lib.hid hr
  clear hb1 hr
  cases r with
  | true =>
    go_wp2_with fail
    go_at_call 10
    refine (known_any _).mono ?_
    rintro e w2 ⟨rfl, hb⟩
    have HB2 := Lib.hid (HB1.out.trans (hb.mono HB1.out.size))
    clear hb
    go_wp2
    go_ret
    exact ⟨rfl, HB2.out⟩
  | false =>
    have hm62 : m2 ≤ 60 := HRb.out rfl
    go_wp2_with fail
    go_at_call 11
    refine (own_new n9 _ N9.out HB1.out.size).mono ?_
    rintro e w3 ⟨gd, rfl, ho, hb⟩
    have HO := Lib.hid ho
    have HB3 := Lib.hid (HB1.out.trans hb)
    clear ho hb
    go_wp2_with fail
    go_at_call 17
    refine (refnew_any (A := fun k => W.heap.size ≤ k ∧ k < w3.heap.size) n9 _ N9.out (fun k hk => hk.2)).mono ?_
    rintro e w4 ⟨tv, rfl, ht, hb⟩
    have hbu := bun_new HB3.out.size HO.out ht hb
    obtain ⟨aS, nS, cS, aL, nL, cL, a1, a2, a3, a4, rfl⟩ := bun_tv hbu
    have HB4 := Lib.hid (HB3.out.trans (hb.mono HB3.out.size))
    have HBu := Lib.hid hbu
    clear ht hb hbu
    go_wp2
    obtain ⟨W5, hW5⟩ : ∃ W5, W5 = w4.alloc (Obj.cells #[Value.slice aS nS cS, Value.slice aL nL cL, Value.int IntKind.i64 a1, Value.int IntKind.i64 a2, Value.bool a3, Value.int IntKind.i64 a4] 38) := ⟨_, rfl⟩
    obtain ⟨g6, hg6⟩ : ∃ g6, g6 = w4.heap.size := ⟨_, rfl⟩
    rw [← hW5, ← hg6]
    have hb5 : Below w4.heap.size w4 W5 := by rw [hW5]; exact (Below.refl _ _).alloc (Nat.le_refl _) _
    have HC6 := Lib.hid (show Blk W5 g6 38 #[Value.slice aS nS cS, Value.slice aL nL cL, Value.int IntKind.i64 a1, Value.int IntKind.i64 a2, Value.bool a3, Value.int IntKind.i64 a4] by rw [hW5, hg6]; exact heap_alloc_new w4 _)
    have HB5 := Lib.hid (HB4.out.trans (hb5.mono HB4.out.size))
    have HI := Lib.hid (show Inv W.heap.size g6 W5 (.pointer (some ⟨gd, 0, none⟩)) 0 from ⟨Sim.new n9, _, _, _, _, _, _, _, _, _, _, (HBu.out.grow hb5 (by rw [hW5]; simp)).less (fun k hk => .inr (hk.trans hg6)), HC6.out, Nat.le_refl _, Nat.le_refl _⟩)
    clear hb5 hW5 hg6 HBu HC6
    go_loopw [10, 11, 12] (fun i _ _ wr => ∃ k : Nat, k ≤ m ∧ i = .int .i64 k ∧ Inv W.heap.size g6 wr (.pointer (some ⟨gd, 0, none⟩)) k ∧ Below W.heap.size W wr) (fun i _ _ _ => m - (intOf i).toNat)
    case atStart => exact ⟨0, Nat.zero_le _, rfl, HI.out, HB5.out⟩
    case round =>
      obtain ⟨k, hk, rfl, hinv, hbel⟩ := hrel
      clear HI HB5
      obtain ⟨s, aS, nS, cS, aL, nL, cL, a1, a2, a3, a4, hbu, hc6, hw, hf⟩ := hinv
      have HBu := Lib.hid hbu
      have HC6 := Lib.hid hc6
      have HHw := Lib.hid hbel
      clear hbu hc6 hbel
      by_cases hlt : k < m
      ·
        have i6 : (k : Int) < (m : Int) := by omega
        obtain ⟨b, off, x, hA, hbb, hx, hd⟩ := HV.out.at_ HM.out hlt
        subst hA
        obtain ⟨d0, d1, ⟨u2, d2, hu2⟩, ⟨u3, d4, hu3⟩, d6, hk9, hv9, _, _, _⟩ := hd
        obtain ⟨x8, hx8⟩ := uc x.v hv9
        rw [hx8] at d6
        have HU2 := Lib.hid hu2
        have HU3 := Lib.hid hu3
        obtain ⟨A2, c2, rfl, _⟩ := hu2
        obtain ⟨A3, c3, rfl, _⟩ := hu3
        obtain ⟨l2, hl2⟩ : ∃ l2, l2 = x.b.length := ⟨_, rfl⟩
        obtain ⟨l3, hl3⟩ : ∃ l3, l3 = x.keep.length := ⟨_, rfl⟩
        rw [← hl2] at d2 HU2
        rw [← hl3] at d4 HU3
        have HN1 := Lib.hid (show s.nw < 299 by omega)
        have HN2 := Lib.hid (show s.nf < 299 by omega)
        have HNs := Lib.hid (done_n s (x.kind % 9) x.i x.b x.keep x8)
        have HWk := Lib.hid hw
        have HFk := Lib.hid hf
        have HC6r := HC6
        clear hx hx8 hl2 hl3 hw hf hk9 hv9
        go_wp2_with fail
        have HBu := Lib.hid (HBu.out.below drew_b)
        have HHw := Lib.hid HHw.out.drew
        have HC6 : Hid (Blk wr.drew g6 38 _) := HC6
        refine wp_region_held_drew (S := fun X => Below W.heap.size W X ∧ X.heap[g6]? = wr.heap[g6]?) (by kernel_rfl) ⟨HHw.out, rfl⟩ (fun hHeld => ?_)
        refine wpAnyH_take (i := 0) (oi := { dst := some 45, op := Op.move (Operand.tmp 7), type := 23, pos := "law.go:132", after := #[], guard := none }) (v := ?_) rfl (by kernel_rfl) (by kernel_rfl) (by kernel_rfl) (fun _ _ _ h => h) (Or.inl ⟨by rfl, ?_⟩) (by assumption) ?_
        rotate_left
        · intro X hSw; go_simp; try (with_reducible rfl)
        try simp only [Act.put, List.setIfInBounds_toArray, List.set_cons_zero, List.set_cons_succ]
        refine wpAnyH_take (i := 1) (oi := { dst := some 46, op := Op.load 38 (Operand.tmp 8), type := 38, pos := "law.go:132", after := #[], guard := none }) (v := ?_) rfl (by kernel_rfl) (by kernel_rfl) (by kernel_rfl) (fun _ _ _ h => h) (Or.inl ⟨by rfl, ?_⟩) (by assumption) ?_
        rotate_left
        · intro X hSw; have hq : Blk X g6 38 _ := HC6r.out.same hSw.2; have hq0 := hq.cell 0; have hq1 := hq.cell 1; have hq2 := hq.cell 2; have hq3 := hq.cell 3; have hq4 := hq.cell 4; have hq5 := hq.cell 5; go_simp; try (with_reducible rfl)
        try simp only [Act.put, List.setIfInBounds_toArray, List.set_cons_zero, List.set_cons_succ]
        refine wpAnyH_take (i := 2) (oi := { dst := some 47, op := Op.move (Operand.tmp 1), type := 33, pos := "law.go:132", after := #[], guard := none }) (v := ?_) rfl (by kernel_rfl) (by kernel_rfl) (by kernel_rfl) (fun _ _ _ h => h) (Or.inl ⟨by rfl, ?_⟩) (by assumption) ?_
        rotate_left
        · intro X hSw; go_simp; try (with_reducible rfl)
        try simp only [Act.put, List.setIfInBounds_toArray, List.set_cons_zero, List.set_cons_succ]
        refine wpAnyH_take (i := 3) (oi := { dst := some 48, op := Op.move (Operand.tmp 10), type := 3, pos := "law.go:132", after := #[], guard := none }) (v := ?_) rfl (by kernel_rfl) (by kernel_rfl) (by kernel_rfl) (fun _ _ _ h => h) (Or.inl ⟨by rfl, ?_⟩) (by assumption) ?_
        rotate_left
        · intro X hSw; go_simp; try (with_reducible rfl)
        try simp only [Act.put, List.setIfInBounds_toArray, List.set_cons_zero, List.set_cons_succ]
        refine wpAnyH_take (i := 4) (oi := { dst := some 49, op := Op.indexAddr 33 (Operand.tmp 47) (Operand.tmp 48), type := 0, pos := "law.go:132", after := #[{ on := 2, ground := Ground.data }, { on := 3, ground := Ground.data }], guard := none }) (v := ?_) rfl (by kernel_rfl) (by kernel_rfl) (by kernel_rfl) (fun _ _ _ h => h) (Or.inl ⟨by rfl, ?_⟩) (by assumption) ?_
        rotate_left
        · intro X hSw; go_simp; try (with_reducible rfl)
        try simp only [Act.put, List.setIfInBounds_toArray, List.set_cons_zero, List.set_cons_succ]
        refine wpAnyH_take (i := 5) (oi := { dst := some 50, op := Op.load 44 (Operand.tmp 49), type := 44, pos := "law.go:132", after := #[{ on := 4, ground := Ground.data }], guard := none }) (v := ?_) rfl (by kernel_rfl) (by kernel_rfl) (by kernel_rfl) (fun _ _ _ h => h) (Or.inl ⟨by rfl, ?_⟩) (by assumption) ?_
        rotate_left
        · intro X hSw; have p0 := (hSw.1.cell (p := ⟨b, off + k * 5, none⟩) hbb).trans d0; have p1 := (hSw.1.cell (p := ⟨b, off + k * 5 + 1, none⟩) hbb).trans d1; have p2 := (hSw.1.cell (p := ⟨b, off + k * 5 + 2, none⟩) hbb).trans d2; have p3 := (hSw.1.cell (p := ⟨b, off + k * 5 + 3, none⟩) hbb).trans d4; have p4 := (hSw.1.cell (p := ⟨b, off + k * 5 + 4, none⟩) hbb).trans d6; go_simp; try (with_reducible rfl)
        try simp only [Act.put, List.setIfInBounds_toArray, List.set_cons_zero, List.set_cons_succ]
        refine wpAnyH_ready (rs := [6, 10]) (by kernel_rfl) (by simp) ?_
        refine AllReadyH.cons (o := { dst := some 51, op := Op.call { callee := Callee.value (Operand.func 18), args := #[Operand.tmp 45, Operand.tmp 46, Operand.tmp 50], argTypes := #[23, 38, 44] }, type := 39, pos := "law.go:132", after := #[{ on := 0, ground := Ground.data }, { on := 1, ground := Ground.data }, { on := 5, ground := Ground.data }], guard := none }) rfl (fun K hK => ?_) (AllReadyH.cons (o := { dst := some 11, op := Op.alloc 38, type := 0, pos := "law.go:132", after := #[], guard := none }) rfl (fun K hK => ?_) AllReadyH.nil)
        · go_simp
          refine (bun_step x.kind x.i x8 HBu.out HHw.out HU2.out HU3.out HN1.out HN2.out).mono ?_
          rintro e w5 ⟨tv5, rfl, hbu, hbl, hsame⟩
          obtain ⟨aS, nS, cS, aL, nL, cL, a1, a2, a3, a4, rfl⟩ := bun_tv hbu
          have HHw := Lib.hid (HHw.out.trans hbl)
          have HC6 := Lib.hid (HC6.out.same (hsame g6 (by first | exact rfl | exact .inl rfl | exact .inl (.inl rfl))))
          try have HCz := Lib.hid (HCz.out.same (hsame _ (.inr rfl)))
          have HBu := Lib.hid hbu
          clear hbu hbl hsame
          go_wp2_with fail
          try (go_wp2_with fail)
          have hHeld' := And.intro HHw.out (blk_eq HC6.out HC6r.out)
          refine hK.out _ _ ?_ (fun _ => ?_)
          · exact hHeld'
          clear hK K hHeld
          have hHeld := hHeld'
          clear hHeld'
          try simp only [Act.put, List.setIfInBounds_toArray, List.set_cons_zero, List.set_cons_succ]
          refine wpAnyH_take (i := 7) (oi := { dst := some 44, op := Op.move (Operand.tmp 51), type := 39, pos := "law.go:132", after := #[{ on := 6, ground := Ground.data }], guard := none }) (v := ?_) rfl (by kernel_rfl) (by kernel_rfl) (by kernel_rfl) (fun _ _ _ h => h) (Or.inl ⟨by rfl, ?_⟩) (by assumption) ?_
          rotate_left
          · intro X hSw; go_simp; try (with_reducible rfl)
          try simp only [Act.put, List.setIfInBounds_toArray, List.set_cons_zero, List.set_cons_succ]
          refine wpAnyH_take (i := 8) (oi := { dst := some 52, op := Op.extract (Operand.tmp 44) 0, type := 38, pos := "law.go:132", after := #[{ on := 7, ground := Ground.data }], guard := none }) (v := ?_) rfl (by kernel_rfl) (by kernel_rfl) (by kernel_rfl) (fun _ _ _ h => h) (Or.inl ⟨by rfl, ?_⟩) (by assumption) ?_
          rotate_left
          · intro X hSw; go_simp; try (with_reducible rfl)
          try simp only [Act.put, List.setIfInBounds_toArray, List.set_cons_zero, List.set_cons_succ]
          refine wpAnyH_take (i := 9) (oi := { dst := some 53, op := Op.extract (Operand.tmp 44) 1, type := 4, pos := "law.go:132", after := #[{ on := 7, ground := Ground.data }, { on := 11, ground := Ground.gcOnly Departure.lateStores }], guard := none }) (v := ?_) rfl (by kernel_rfl) (by kernel_rfl) (by kernel_rfl) (fun _ _ _ h => h) (Or.inl ⟨by rfl, ?_⟩) (by assumption) ?_
          rotate_left
          · intro X hSw; go_simp; try (with_reducible rfl)
          try simp only [Act.put, List.setIfInBounds_toArray, List.set_cons_zero, List.set_cons_succ]
          refine wpAnyH_ready (rs := [10]) (by kernel_rfl) (by simp) ?_
          refine AllReadyH.cons (o := { dst := some 11, op := Op.alloc 38, type := 0, pos := "law.go:132", after := #[], guard := none }) rfl (fun K hK => ?_) AllReadyH.nil
          go_simp
          first | refine gen_allocD ?_ | refine gen_alloc ?_
          intro wA hwA hbA
          first | have hbB : Below wr.drew.heap.size wr.drew wA := ⟨hbA.os, hbA.tape, hbA.output, hbA.size, hbA.block⟩ | have hbB := hbA
          have HCz : Hid (Blk wA _ 38 #[Value.slice none 0 0, Value.slice none 0 0, Value.int IntKind.i64 0, Value.int IntKind.i64 0, Value.bool false, Value.int IntKind.i64 0]) := Lib.hid (by rw [hwA]; exact heap_alloc_new _ _)
          have HNe := Lib.hid (Nat.ne_of_lt HC6.out.lt)
          have HBu := Lib.hid (HBu.out.grow hbB (by rw [hwA]; simp))
          have HC6 := Lib.hid (HC6.out.below hbB HC6.out.lt)
          have HHw := Lib.hid (HHw.out.trans (hbB.mono HHw.out.size))
          clear hwA hbA hbB
          try (go_wp2_with fail)
          have hHeld' := And.intro HHw.out (blk_eq HC6.out HC6r.out)
          refine hK.out _ _ ?_ (fun _ => ?_)
          · exact hHeld'
          clear hK K hHeld
          have hHeld := hHeld'
          clear hHeld'
          try simp only [Act.put, List.setIfInBounds_toArray, List.set_cons_zero, List.set_cons_succ]
          refine wpAnyH_ready (rs := [11]) (by kernel_rfl) (by simp) ?_
          refine AllReadyH.cons (o := { dst := none, op := Op.store 38 (Operand.tmp 11) (Operand.tmp 52), type := 0, pos := "law.go:132", after := #[{ on := 10, ground := Ground.data }, { on := 8, ground := Ground.data }, { on := 6, ground := Ground.chain }, { on := 0, ground := Ground.phase }, { on := 1, ground := Ground.phase }, { on := 2, ground := Ground.phase }, { on := 3, ground := Ground.phase }, { on := 4, ground := Ground.phase }, { on := 5, ground := Ground.phase }, { on := 6, ground := Ground.phase }, { on := 7, ground := Ground.phase }, { on := 8, ground := Ground.phase }, { on := 9, ground := Ground.textOnly Departure.lateStores }, { on := 10, ground := Ground.phase }], guard := none }) rfl (fun K hK => ?_) AllReadyH.nil
          have z0 := HCz.out.cell 0
          have z1 := HCz.out.cell 1
          have z2 := HCz.out.cell 2
          have z3 := HCz.out.cell 3
          have z4 := HCz.out.cell 4
          have z5 := HCz.out.cell 5
          have zf := HCz.out.frozen
          have zl := HCz.out.lt
          go_simp
          have hHeld' := six_held (HBu.out.ge (.inr rfl)).1 HNe.out HC6.out.lt HBu.out.size hHeld (.slice aS nS cS) (.slice aL nL cL) (.int .i64 a1) (.int .i64 a2) (.bool a3) (.int .i64 a4)
          refine hK.out _ _ ?_ (fun _ => ?_)
          · exact hHeld'
          clear hK K hHeld
          have hHeld := hHeld'
          clear hHeld'
          try simp only [Act.put, List.setIfInBounds_toArray, List.set_cons_zero, List.set_cons_succ]
          refine wpAnyH_take (i := 12) (oi := { dst := some 12, op := Op.assign (Operand.tmp 53), type := 4, pos := "law.go:132", after := #[{ on := 9, ground := Ground.data }, { on := 11, ground := Ground.chain }, { on := 0, ground := Ground.phase }, { on := 1, ground := Ground.phase }, { on := 2, ground := Ground.phase }, { on := 3, ground := Ground.phase }, { on := 4, ground := Ground.phase }, { on := 5, ground := Ground.phase }, { on := 6, ground := Ground.phase }, { on := 7, ground := Ground.phase }, { on := 8, ground := Ground.phase }, { on := 9, ground := Ground.phase }, { on := 10, ground := Ground.phase }, { on := 11, ground := Ground.phase }], guard := none }) (v := ?_) rfl (by kernel_rfl) (by kernel_rfl) (by kernel_rfl) (fun _ _ _ h => h) (Or.inl ⟨by rfl, ?_⟩) (by assumption) ?_
          rotate_left
          · intro X hSw; go_simp; try (with_reducible rfl)
          try simp only [Act.put, List.setIfInBounds_toArray, List.set_cons_zero, List.set_cons_succ]
          refine wpAnyH_done (by kernel_rfl) ?_ _
          refine gen_six ?_
          intro wf hwf
          have hHeld : Below W.heap.size W wf ∧ wf.heap[g6]? = wr.heap[g6]? := by rw [hwf]; exact hHeld
          have HCf : Hid (Blk wf _ 38 #[.slice aS nS cS, .slice aL nL cL, .int .i64 a1, .int .i64 a2, .bool a3, .int .i64 a4]) := Lib.hid (by rw [hwf]; exact blk_six HCz.out (.slice aS nS cS) (.slice aL nL cL) (.int .i64 a1) (.int .i64 a2) (.bool a3) (.int .i64 a4))
          have HBf := Lib.hid (show Bun _ _ wf _ _ _ by rw [hwf]; exact HBu.out.fr (.inr rfl) (six_fr _ _ (.slice aS nS cS) (.slice aL nL cL) (.int .i64 a1) (.int .i64 a2) (.bool a3) (.int .i64 a4)))
          have HC6 := Lib.hid (HC6r.out.same hHeld.2)
          have HHw := Lib.hid hHeld.1
          clear hwf hHeld HBu HCz
          have y0 := HCf.out.cell 0
          have y1 := HCf.out.cell 1
          have y2 := HCf.out.cell 2
          have y3 := HCf.out.cell 3
          have y4 := HCf.out.cell 4
          have y5 := HCf.out.cell 5
          have z0 := HC6.out.cell 0
          have z1 := HC6.out.cell 1
          have z2 := HC6.out.cell 2
          have z3 := HC6.out.cell 3
          have z4 := HC6.out.cell 4
          have z5 := HC6.out.cell 5
          have zf := HC6.out.frozen
          have zl := HC6.out.lt
          have hn7 := HNs.out
          have hw7 := HWk.out
          have hf7 := HFk.out
          go_wp2
          go_roundw
          case rel => exact ⟨k + 1, by omega, by go_num, ⟨_, _, _, _, _, _, _, _, _, _, _, (HBf.out.fr (.inl rfl) (six_fr _ _ (.slice aS nS cS) (.slice aL nL cL) (.int .i64 a1) (.int .i64 a2) (.bool a3) (.int .i64 a4))).less (fun k hk => .inl hk), blk_six HC6.out (.slice aS nS cS) (.slice aL nL cL) (.int .i64 a1) (.int .i64 a2) (.bool a3) (.int .i64 a4), by omega, by omega⟩, HHw.out.trans ((six_fr wf g6 (.slice aS nS cS) (.slice aL nL cL) (.int .i64 a1) (.int .i64 a2) (.bool a3) (.int .i64 a4)).below (fun k hk => hk ▸ (HBf.out.ge (.inl rfl)).1) HBf.out.size)⟩
          case measure => simp [intOf]; omega
        · go_simp
          first | refine gen_allocD ?_ | refine gen_alloc ?_
          intro wA hwA hbA
          first | have hbB : Below wr.drew.heap.size wr.drew wA := ⟨hbA.os, hbA.tape, hbA.output, hbA.size, hbA.block⟩ | have hbB := hbA
          have HCz : Hid (Blk wA _ 38 #[Value.slice none 0 0, Value.slice none 0 0, Value.int IntKind.i64 0, Value.int IntKind.i64 0, Value.bool false, Value.int IntKind.i64 0]) := Lib.hid (by rw [hwA]; exact heap_alloc_new _ _)
          have HNe := Lib.hid (Nat.ne_of_lt HC6.out.lt)
          have HBu := Lib.hid (HBu.out.grow hbB (by rw [hwA]; simp))
          have HC6 := Lib.hid (HC6.out.below hbB HC6.out.lt)
          have HHw := Lib.hid (HHw.out.trans (hbB.mono HHw.out.size))
          clear hwA hbA hbB
          try (go_wp2_with fail)
          have hHeld' := And.intro HHw.out (blk_eq HC6.out HC6r.out)
          refine hK.out _ _ ?_ (fun _ => ?_)
          · exact hHeld'
          clear hK K hHeld
          have hHeld := hHeld'
          clear hHeld'
          try simp only [Act.put, List.setIfInBounds_toArray, List.set_cons_zero, List.set_cons_succ]
          refine wpAnyH_ready (rs := [6]) (by kernel_rfl) (by simp) ?_
          refine AllReadyH.cons (o := { dst := some 51, op := Op.call { callee := Callee.value (Operand.func 18), args := #[Operand.tmp 45, Operand.tmp 46, Operand.tmp 50], argTypes := #[23, 38, 44] }, type := 39, pos := "law.go:132", after := #[{ on := 0, ground := Ground.data }, { on := 1, ground := Ground.data }, { on := 5, ground := Ground.data }], guard := none }) rfl (fun K hK => ?_) AllReadyH.nil
          go_simp
          refine (bun_step x.kind x.i x8 HBu.out HHw.out HU2.out HU3.out HN1.out HN2.out).mono ?_
          rintro e w5 ⟨tv5, rfl, hbu, hbl, hsame⟩
          obtain ⟨aS, nS, cS, aL, nL, cL, a1, a2, a3, a4, rfl⟩ := bun_tv hbu
          have HHw := Lib.hid (HHw.out.trans hbl)
          have HC6 := Lib.hid (HC6.out.same (hsame g6 (by first | exact rfl | exact .inl rfl | exact .inl (.inl rfl))))
          try have HCz := Lib.hid (HCz.out.same (hsame _ (.inr rfl)))
          have HBu := Lib.hid hbu
          clear hbu hbl hsame
          go_wp2_with fail
          try (go_wp2_with fail)
          have hHeld' := And.intro HHw.out (blk_eq HC6.out HC6r.out)
          refine hK.out _ _ ?_ (fun _ => ?_)
          · exact hHeld'
          clear hK K hHeld
          have hHeld := hHeld'
          clear hHeld'
          try simp only [Act.put, List.setIfInBounds_toArray, List.set_cons_zero, List.set_cons_succ]
          refine wpAnyH_take (i := 7) (oi := { dst := some 44, op := Op.move (Operand.tmp 51), type := 39, pos := "law.go:132", after := #[{ on := 6, ground := Ground.data }], guard := none }) (v := ?_) rfl (by kernel_rfl) (by kernel_rfl) (by kernel_rfl) (fun _ _ _ h => h) (Or.inl ⟨by rfl, ?_⟩) (by assumption) ?_
          rotate_left
          · intro X hSw; go_simp; try (with_reducible rfl)
          try simp only [Act.put, List.setIfInBounds_toArray, List.set_cons_zero, List.set_cons_succ]
          refine wpAnyH_take (i := 8) (oi := { dst := some 52, op := Op.extract (Operand.tmp 44) 0, type := 38, pos := "law.go:132", after := #[{ on := 7, ground := Ground.data }], guard := none }) (v := ?_) rfl (by kernel_rfl) (by kernel_rfl) (by kernel_rfl) (fun _ _ _ h => h) (Or.inl ⟨by rfl, ?_⟩) (by assumption) ?_
          rotate_left
          · intro X hSw; go_simp; try (with_reducible rfl)
          try simp only [Act.put, List.setIfInBounds_toArray, List.set_cons_zero, List.set_cons_succ]
          refine wpAnyH_take (i := 9) (oi := { dst := some 53, op := Op.extract (Operand.tmp 44) 1, type := 4, pos := "law.go:132", after := #[{ on := 7, ground := Ground.data }, { on := 11, ground := Ground.gcOnly Departure.lateStores }], guard := none }) (v := ?_) rfl (by kernel_rfl) (by kernel_rfl) (by kernel_rfl) (fun _ _ _ h => h) (Or.inl ⟨by rfl, ?_⟩) (by assumption) ?_
          rotate_left
          · intro X hSw; go_simp; try (with_reducible rfl)
          try simp only [Act.put, List.setIfInBounds_toArray, List.set_cons_zero, List.set_cons_succ]
          refine wpAnyH_ready (rs := [11]) (by kernel_rfl) (by simp) ?_
          refine AllReadyH.cons (o := { dst := none, op := Op.store 38 (Operand.tmp 11) (Operand.tmp 52), type := 0, pos := "law.go:132", after := #[{ on := 10, ground := Ground.data }, { on := 8, ground := Ground.data }, { on := 6, ground := Ground.chain }, { on := 0, ground := Ground.phase }, { on := 1, ground := Ground.phase }, { on := 2, ground := Ground.phase }, { on := 3, ground := Ground.phase }, { on := 4, ground := Ground.phase }, { on := 5, ground := Ground.phase }, { on := 6, ground := Ground.phase }, { on := 7, ground := Ground.phase }, { on := 8, ground := Ground.phase }, { on := 9, ground := Ground.textOnly Departure.lateStores }, { on := 10, ground := Ground.phase }], guard := none }) rfl (fun K hK => ?_) AllReadyH.nil
          have z0 := HCz.out.cell 0
          have z1 := HCz.out.cell 1
          have z2 := HCz.out.cell 2
          have z3 := HCz.out.cell 3
          have z4 := HCz.out.cell 4
          have z5 := HCz.out.cell 5
          have zf := HCz.out.frozen
          have zl := HCz.out.lt
          go_simp
          have hHeld' := six_held (HBu.out.ge (.inr rfl)).1 HNe.out HC6.out.lt HBu.out.size hHeld (.slice aS nS cS) (.slice aL nL cL) (.int .i64 a1) (.int .i64 a2) (.bool a3) (.int .i64 a4)
          refine hK.out _ _ ?_ (fun _ => ?_)
          · exact hHeld'
          clear hK K hHeld
          have hHeld := hHeld'
          clear hHeld'
          try simp only [Act.put, List.setIfInBounds_toArray, List.set_cons_zero, List.set_cons_succ]
          refine wpAnyH_take (i := 12) (oi := { dst := some 12, op := Op.assign (Operand.tmp 53), type := 4, pos := "law.go:132", after := #[{ on := 9, ground := Ground.data }, { on := 11, ground := Ground.chain }, { on := 0, ground := Ground.phase }, { on := 1, ground := Ground.phase }, { on := 2, ground := Ground.phase }, { on := 3, ground := Ground.phase }, { on := 4, ground := Ground.phase }, { on := 5, ground := Ground.phase }, { on := 6, ground := Ground.phase }, { on := 7, ground := Ground.phase }, { on := 8, ground := Ground.phase }, { on := 9, ground := Ground.phase }, { on := 10, ground := Ground.phase }, { on := 11, ground := Ground.phase }], guard := none }) (v := ?_) rfl (by kernel_rfl) (by kernel_rfl) (by kernel_rfl) (fun _ _ _ h => h) (Or.inl ⟨by rfl, ?_⟩) (by assumption) ?_
          rotate_left
          · intro X hSw; go_simp; try (with_reducible rfl)
          try simp only [Act.put, List.setIfInBounds_toArray, List.set_cons_zero, List.set_cons_succ]
          refine wpAnyH_done (by kernel_rfl) ?_ _
          refine gen_six ?_
          intro wf hwf
          have hHeld : Below W.heap.size W wf ∧ wf.heap[g6]? = wr.heap[g6]? := by rw [hwf]; exact hHeld
          have HCf : Hid (Blk wf _ 38 #[.slice aS nS cS, .slice aL nL cL, .int .i64 a1, .int .i64 a2, .bool a3, .int .i64 a4]) := Lib.hid (by rw [hwf]; exact blk_six HCz.out (.slice aS nS cS) (.slice aL nL cL) (.int .i64 a1) (.int .i64 a2) (.bool a3) (.int .i64 a4))
          have HBf := Lib.hid (show Bun _ _ wf _ _ _ by rw [hwf]; exact HBu.out.fr (.inr rfl) (six_fr _ _ (.slice aS nS cS) (.slice aL nL cL) (.int .i64 a1) (.int .i64 a2) (.bool a3) (.int .i64 a4)))
          have HC6 := Lib.hid (HC6r.out.same hHeld.2)
          have HHw := Lib.hid hHeld.1
          clear hwf hHeld HBu HCz
          have y0 := HCf.out.cell 0
          have y1 := HCf.out.cell 1
          have y2 := HCf.out.cell 2
          have y3 := HCf.out.cell 3
          have y4 := HCf.out.cell 4
          have y5 := HCf.out.cell 5
          have z0 := HC6.out.cell 0
          have z1 := HC6.out.cell 1
          have z2 := HC6.out.cell 2
          have z3 := HC6.out.cell 3
          have z4 := HC6.out.cell 4
          have z5 := HC6.out.cell 5
          have zf := HC6.out.frozen
          have zl := HC6.out.lt
          have hn7 := HNs.out
          have hw7 := HWk.out
          have hf7 := HFk.out
          go_wp2
          go_roundw
          case rel => exact ⟨k + 1, by omega, by go_num, ⟨_, _, _, _, _, _, _, _, _, _, _, (HBf.out.fr (.inl rfl) (six_fr _ _ (.slice aS nS cS) (.slice aL nL cL) (.int .i64 a1) (.int .i64 a2) (.bool a3) (.int .i64 a4))).less (fun k hk => .inl hk), blk_six HC6.out (.slice aS nS cS) (.slice aL nL cL) (.int .i64 a1) (.int .i64 a2) (.bool a3) (.int .i64 a4), by omega, by omega⟩, HHw.out.trans ((six_fr wf g6 (.slice aS nS cS) (.slice aL nL cL) (.int .i64 a1) (.int .i64 a2) (.bool a3) (.int .i64 a4)).below (fun k hk => hk ▸ (HBf.out.ge (.inl rfl)).1) HBf.out.size)⟩
          case measure => simp [intOf]; omega
      · have hm2 : ¬ (k : Int) < (m : Int) := by omega
        have hw60 : s.nw ≤ 60 := by omega
        have hf60 : s.nf ≤ 60 := by omega
        go_wp2_with fail
        go_at_call 21
        refine (bun_copy HBu.out (by omega)).mono ?_
        rintro e wc ⟨gc, rfl, hb2, hbc⟩
        have HB2 := Lib.hid hb2
        have HHc := Lib.hid (HHw.out.trans (hbc.mono HHw.out.size))
        have HC6c := Lib.hid (HC6.out.below hbc HC6.out.lt)
        have HC6 := HC6c
        clear hbc hb2
        have t0 := HC6c.out.cell 0
        have t1 := HC6c.out.cell 1
        have t2 := HC6c.out.cell 2
        have t3 := HC6c.out.cell 3
        have t4 := HC6c.out.cell 4
        have t5 := HC6c.out.cell 5
        go_wp2
        clear t0 t1 t2 t3 t4 t5
        obtain ⟨W6, hW6⟩ : ∃ W6, W6 = wc.alloc (Obj.cells #[Value.slice aS nS cS, Value.slice aL nL cL, Value.int IntKind.i64 a1, Value.int IntKind.i64 a2, Value.bool a3, Value.int IntKind.i64 a4] 38) := ⟨_, rfl⟩
        obtain ⟨gE, hgE⟩ : ∃ gE, gE = wc.heap.size := ⟨_, rfl⟩
        rw [← hW6, ← hgE]
        have hb6 : Below wc.heap.size wc W6 := by rw [hW6]; exact (Below.refl _ _).alloc (Nat.le_refl _) _
        have HCE := Lib.hid (show Blk W6 gE 38 #[Value.slice aS nS cS, Value.slice aL nL cL, Value.int IntKind.i64 a1, Value.int IntKind.i64 a2, Value.bool a3, Value.int IntKind.i64 a4] by rw [hW6, hgE]; exact heap_alloc_new wc _)
        have HB6 := Lib.hid (HHc.out.trans (hb6.mono HHc.out.size))
        have HN8 := Lib.hid (show g6 ≠ gE by rw [hgE]; exact Nat.ne_of_lt HC6c.out.lt)
        obtain ⟨td, htd⟩ : ∃ td, td = Value.agg #[.slice aS nS cS, .slice aL nL cL, .int .i64 a1, .int .i64 a2, .bool a3, .int .i64 a4] := ⟨_, rfl⟩
        obtain ⟨tc, htc⟩ : ∃ tc : Array Value, tc = #[.slice aS nS cS, .slice aL nL cL, .int .i64 a1, .int .i64 a2, .bool a3, .int .i64 a4] := ⟨_, rfl⟩
        have HTD := Lib.hid htd
        have HTC := Lib.hid htc
        have HI2 := Lib.hid (show Inv2 W.heap.size g6 gE W6 (.pointer (some ⟨gd, 0, none⟩)) td s tc (.pointer (some ⟨gc, 0, none⟩)) 0 from ⟨s, _, _, _, _, _, _, _, _, _, _, by rw [htd]; exact (HB2.out.grow hb6 (by rw [hW6]; simp)).less (fun k hk => by rcases hk with hk | hk; exact .inr (hk.trans hgE); exact .inl hk), HCE.out, by rw [htc]; exact HC6c.out.below hb6 HC6c.out.lt, by omega, by omega⟩)
        have HW1 := Lib.hid hw60
        have HF1 := Lib.hid hf60
        obtain ⟨s1, hs1⟩ : ∃ s1, s1 = s := ⟨_, rfl⟩
        have HS1 := Lib.hid hs1
        rw [← hs1] at HI2 HW1 HF1
        clear hb6 hW6 hgE HB2 HC6 HC6c HCE HBu htd htc hs1 hw hf hw60 hf60
        go_loopw [15, 16, 17] (fun i _ _ wr => ∃ k : Nat, k ≤ m2 ∧ i = .int .i64 k ∧ Inv2 W.heap.size g6 gE wr (.pointer (some ⟨gd, 0, none⟩)) td s1 tc (.pointer (some ⟨gc, 0, none⟩)) k ∧ Below W.heap.size W wr) (fun i _ _ _ => m2 - (intOf i).toNat)
        case atStart => exact ⟨0, Nat.zero_le _, rfl, HI2.out, HB6.out⟩
        case round =>
          clear hm2 hlt hk HHw
          obtain ⟨k, hk, rfl, hinv, hbel⟩ := hrel
          clear HI2 HB6
          have HTDo := HTD
          have HTCo := HTC
          obtain ⟨aT, nT, cT, aM, nM, cM, b1, b2, b3, b4, hTC, hTD⟩ : ∃ (aT : Option Addr) (nT cT : Nat) (aM : Option Addr) (nM cM : Nat) (b1 b2 : Int) (b3 : Bool) (b4 : Int), tc = #[.slice aT nT cT, .slice aM nM cM, .int .i64 b1, .int .i64 b2, .bool b3, .int .i64 b4] ∧ td = .agg #[.slice aT nT cT, .slice aM nM cM, .int .i64 b1, .int .i64 b2, .bool b3, .int .i64 b4] := ⟨_, _, _, _, _, _, _, _, _, _, HTC.out, HTD.out⟩
          have HTC := Lib.hid hTC
          have HTD := Lib.hid hTD
          clear hTC hTD
          obtain ⟨s, aS, nS, cS, aL, nL, cL, a1, a2, a3, a4, hbu, hc6, hc8, hw, hf⟩ := hinv
          have HBu := Lib.hid hbu
          have HC6 := Lib.hid hc6
          have HC8 := Lib.hid hc8
          have HHw := Lib.hid hbel
          clear hbu hc6 hc8 hbel
          by_cases hlt : k < m2
          ·
            have i6 : (k : Int) < (m2 : Int) := by omega
            obtain ⟨b, off, x, hA, hbb, hx, hd⟩ := HV2.out.at_ HM2.out hlt
            subst hA
            obtain ⟨d0, d1, ⟨u2, d2, hu2⟩, ⟨u3, d4, hu3⟩, d6, hk9, hv9, _, _, _⟩ := hd
            obtain ⟨x8, hx8⟩ := uc x.v hv9
            rw [hx8] at d6
            have HU2 := Lib.hid hu2
            have HU3 := Lib.hid hu3
            obtain ⟨A2, c2, rfl, _⟩ := hu2
            obtain ⟨A3, c3, rfl, _⟩ := hu3
            obtain ⟨l2, hl2⟩ : ∃ l2, l2 = x.b.length := ⟨_, rfl⟩
            obtain ⟨l3, hl3⟩ : ∃ l3, l3 = x.keep.length := ⟨_, rfl⟩
            rw [← hl2] at d2 HU2
            rw [← hl3] at d4 HU3
            have HN1 := Lib.hid (show s.nw < 299 by omega)
            have HN2 := Lib.hid (show s.nf < 299 by omega)
            have HNs := Lib.hid (done_n s (x.kind % 9) x.i x.b x.keep x8)
            have HWk := Lib.hid hw
            have HFk := Lib.hid hf
            have HC6r := HC6
            clear hx hx8 hl2 hl3 hw hf hk9 hv9
            go_wp2_with fail
            have HBu := Lib.hid (HBu.out.below drew_b)
            have HHw := Lib.hid HHw.out.drew
            have HC6 : Hid (Blk wr.drew gE 38 _) := HC6
            have HC8 : Hid (Blk wr.drew g6 38 _) := HC8
            refine wp_region_held_drew (S := fun X => Below W.heap.size W X ∧ X.heap[gE]? = wr.heap[gE]?) (by kernel_rfl) ⟨HHw.out, rfl⟩ (fun hHeld => ?_)
            refine wpAnyH_take (i := 0) (oi := { dst := some 67, op := Op.move (Operand.tmp 13), type := 23, pos := "law.go:141", after := #[], guard := none }) (v := ?_) rfl (by kernel_rfl) (by kernel_rfl) (by kernel_rfl) (fun _ _ _ h => h) (Or.inl ⟨by rfl, ?_⟩) (by assumption) ?_
            rotate_left
            · intro X hSw; go_simp; try (with_reducible rfl)
            try simp only [Act.put, List.setIfInBounds_toArray, List.set_cons_zero, List.set_cons_succ]
            refine wpAnyH_take (i := 1) (oi := { dst := some 68, op := Op.load 38 (Operand.tmp 14), type := 38, pos := "law.go:141", after := #[], guard := none }) (v := ?_) rfl (by kernel_rfl) (by kernel_rfl) (by kernel_rfl) (fun _ _ _ h => h) (Or.inl ⟨by rfl, ?_⟩) (by assumption) ?_
            rotate_left
            · intro X hSw; have hq : Blk X gE 38 _ := HC6r.out.same hSw.2; have hq0 := hq.cell 0; have hq1 := hq.cell 1; have hq2 := hq.cell 2; have hq3 := hq.cell 3; have hq4 := hq.cell 4; have hq5 := hq.cell 5; go_simp; try (with_reducible rfl)
            try simp only [Act.put, List.setIfInBounds_toArray, List.set_cons_zero, List.set_cons_succ]
            refine wpAnyH_take (i := 2) (oi := { dst := some 69, op := Op.move (Operand.tmp 2), type := 33, pos := "law.go:141", after := #[], guard := none }) (v := ?_) rfl (by kernel_rfl) (by kernel_rfl) (by kernel_rfl) (fun _ _ _ h => h) (Or.inl ⟨by rfl, ?_⟩) (by assumption) ?_
            rotate_left
            · intro X hSw; go_simp; try (with_reducible rfl)
            try simp only [Act.put, List.setIfInBounds_toArray, List.set_cons_zero, List.set_cons_succ]
            refine wpAnyH_take (i := 3) (oi := { dst := some 70, op := Op.move (Operand.tmp 15), type := 3, pos := "law.go:141", after := #[], guard := none }) (v := ?_) rfl (by kernel_rfl) (by kernel_rfl) (by kernel_rfl) (fun _ _ _ h => h) (Or.inl ⟨by rfl, ?_⟩) (by assumption) ?_
            rotate_left
            · intro X hSw; go_simp; try (with_reducible rfl)
            try simp only [Act.put, List.setIfInBounds_toArray, List.set_cons_zero, List.set_cons_succ]
            refine wpAnyH_take (i := 4) (oi := { dst := some 71, op := Op.indexAddr 33 (Operand.tmp 69) (Operand.tmp 70), type := 0, pos := "law.go:141", after := #[{ on := 2, ground := Ground.data }, { on := 3, ground := Ground.data }], guard := none }) (v := ?_) rfl (by kernel_rfl) (by kernel_rfl) (by kernel_rfl) (fun _ _ _ h => h) (Or.inl ⟨by rfl, ?_⟩) (by assumption) ?_
            rotate_left
            · intro X hSw; go_simp; try (with_reducible rfl)
            try simp only [Act.put, List.setIfInBounds_toArray, List.set_cons_zero, List.set_cons_succ]
            refine wpAnyH_take (i := 5) (oi := { dst := some 72, op := Op.load 44 (Operand.tmp 71), type := 44, pos := "law.go:141", after := #[{ on := 4, ground := Ground.data }], guard := none }) (v := ?_) rfl (by kernel_rfl) (by kernel_rfl) (by kernel_rfl) (fun _ _ _ h => h) (Or.inl ⟨by rfl, ?_⟩) (by assumption) ?_
            rotate_left
            · intro X hSw; have p0 := (hSw.1.cell (p := ⟨b, off + k * 5, none⟩) hbb).trans d0; have p1 := (hSw.1.cell (p := ⟨b, off + k * 5 + 1, none⟩) hbb).trans d1; have p2 := (hSw.1.cell (p := ⟨b, off + k * 5 + 2, none⟩) hbb).trans d2; have p3 := (hSw.1.cell (p := ⟨b, off + k * 5 + 3, none⟩) hbb).trans d4; have p4 := (hSw.1.cell (p := ⟨b, off + k * 5 + 4, none⟩) hbb).trans d6; go_simp; try (with_reducible rfl)
            try simp only [Act.put, List.setIfInBounds_toArray, List.set_cons_zero, List.set_cons_succ]
            refine wpAnyH_ready (rs := [6, 10]) (by kernel_rfl) (by simp) ?_
            refine AllReadyH.cons (o := { dst := some 73, op := Op.call { callee := Callee.value (Operand.func 18), args := #[Operand.tmp 67, Operand.tmp 68, Operand.tmp 72], argTypes := #[23, 38, 44] }, type := 39, pos := "law.go:141", after := #[{ on := 0, ground := Ground.data }, { on := 1, ground := Ground.data }, { on := 5, ground := Ground.data }], guard := none }) rfl (fun K hK => ?_) (AllReadyH.cons (o := { dst := some 16, op := Op.alloc 38, type := 0, pos := "law.go:141", after := #[], guard := none }) rfl (fun K hK => ?_) AllReadyH.nil)
            · go_simp
              refine (bun2_step x.kind x.i x8 HBu.out HHw.out HU2.out HU3.out HN1.out HN2.out).mono ?_
              rintro e w5 ⟨tv5, rfl, hbu, hbl, hsame⟩
              obtain ⟨aS, nS, cS, aL, nL, cL, a1, a2, a3, a4, rfl⟩ := bun_tv hbu.two
              have HHw := Lib.hid (HHw.out.trans hbl)
              have HC6 := Lib.hid (HC6.out.same (hsame gE (by first | exact rfl | exact .inl rfl | exact .inl (.inl rfl))))
              have HC8 := Lib.hid (HC8.out.same (hsame g6 (by first | exact .inr rfl | exact .inl (.inr rfl))))
              try have HCz := Lib.hid (HCz.out.same (hsame _ (.inr rfl)))
              have HBu := Lib.hid hbu
              clear hbu hbl hsame
              go_wp2_with fail
              try (go_wp2_with fail)
              have hHeld' := And.intro HHw.out (blk_eq HC6.out HC6r.out)
              refine hK.out _ _ ?_ (fun _ => ?_)
              · exact hHeld'
              clear hK K hHeld
              have hHeld := hHeld'
              clear hHeld'
              try simp only [Act.put, List.setIfInBounds_toArray, List.set_cons_zero, List.set_cons_succ]
              refine wpAnyH_take (i := 7) (oi := { dst := some 66, op := Op.move (Operand.tmp 73), type := 39, pos := "law.go:141", after := #[{ on := 6, ground := Ground.data }], guard := none }) (v := ?_) rfl (by kernel_rfl) (by kernel_rfl) (by kernel_rfl) (fun _ _ _ h => h) (Or.inl ⟨by rfl, ?_⟩) (by assumption) ?_
              rotate_left
              · intro X hSw; go_simp; try (with_reducible rfl)
              try simp only [Act.put, List.setIfInBounds_toArray, List.set_cons_zero, List.set_cons_succ]
              refine wpAnyH_take (i := 8) (oi := { dst := some 74, op := Op.extract (Operand.tmp 66) 0, type := 38, pos := "law.go:141", after := #[{ on := 7, ground := Ground.data }], guard := none }) (v := ?_) rfl (by kernel_rfl) (by kernel_rfl) (by kernel_rfl) (fun _ _ _ h => h) (Or.inl ⟨by rfl, ?_⟩) (by assumption) ?_
              rotate_left
              · intro X hSw; go_simp; try (with_reducible rfl)
              try simp only [Act.put, List.setIfInBounds_toArray, List.set_cons_zero, List.set_cons_succ]
              refine wpAnyH_take (i := 9) (oi := { dst := some 75, op := Op.extract (Operand.tmp 66) 1, type := 4, pos := "law.go:141", after := #[{ on := 7, ground := Ground.data }, { on := 11, ground := Ground.gcOnly Departure.lateStores }], guard := none }) (v := ?_) rfl (by kernel_rfl) (by kernel_rfl) (by kernel_rfl) (fun _ _ _ h => h) (Or.inl ⟨by rfl, ?_⟩) (by assumption) ?_
              rotate_left
              · intro X hSw; go_simp; try (with_reducible rfl)
              try simp only [Act.put, List.setIfInBounds_toArray, List.set_cons_zero, List.set_cons_succ]
              refine wpAnyH_ready (rs := [10]) (by kernel_rfl) (by simp) ?_
              refine AllReadyH.cons (o := { dst := some 16, op := Op.alloc 38, type := 0, pos := "law.go:141", after := #[], guard := none }) rfl (fun K hK => ?_) AllReadyH.nil
              go_simp
              first | refine gen_allocD ?_ | refine gen_alloc ?_
              intro wA hwA hbA
              first | have hbB : Below wr.drew.heap.size wr.drew wA := ⟨hbA.os, hbA.tape, hbA.output, hbA.size, hbA.block⟩ | have hbB := hbA
              have HCz : Hid (Blk wA _ 38 #[Value.slice none 0 0, Value.slice none 0 0, Value.int IntKind.i64 0, Value.int IntKind.i64 0, Value.bool false, Value.int IntKind.i64 0]) := Lib.hid (by rw [hwA]; exact heap_alloc_new _ _)
              have HNe := Lib.hid (Nat.ne_of_lt HC6.out.lt)
              have HNe8 := Lib.hid (Nat.ne_of_lt HC8.out.lt)
              have HC8 := Lib.hid (HC8.out.below hbB HC8.out.lt)
              have HBu := Lib.hid (HBu.out.grow hbB (by rw [hwA]; simp))
              have HC6 := Lib.hid (HC6.out.below hbB HC6.out.lt)
              have HHw := Lib.hid (HHw.out.trans (hbB.mono HHw.out.size))
              clear hwA hbA hbB
              try (go_wp2_with fail)
              have hHeld' := And.intro HHw.out (blk_eq HC6.out HC6r.out)
              refine hK.out _ _ ?_ (fun _ => ?_)
              · exact hHeld'
              clear hK K hHeld
              have hHeld := hHeld'
              clear hHeld'
              try simp only [Act.put, List.setIfInBounds_toArray, List.set_cons_zero, List.set_cons_succ]
              refine wpAnyH_ready (rs := [11]) (by kernel_rfl) (by simp) ?_
              refine AllReadyH.cons (o := { dst := none, op := Op.store 38 (Operand.tmp 16) (Operand.tmp 74), type := 0, pos := "law.go:141", after := #[{ on := 10, ground := Ground.data }, { on := 8, ground := Ground.data }, { on := 6, ground := Ground.chain }, { on := 0, ground := Ground.phase }, { on := 1, ground := Ground.phase }, { on := 2, ground := Ground.phase }, { on := 3, ground := Ground.phase }, { on := 4, ground := Ground.phase }, { on := 5, ground := Ground.phase }, { on := 6, ground := Ground.phase }, { on := 7, ground := Ground.phase }, { on := 8, ground := Ground.phase }, { on := 9, ground := Ground.textOnly Departure.lateStores }, { on := 10, ground := Ground.phase }], guard := none }) rfl (fun K hK => ?_) AllReadyH.nil
              have z0 := HCz.out.cell 0
              have z1 := HCz.out.cell 1
              have z2 := HCz.out.cell 2
              have z3 := HCz.out.cell 3
              have z4 := HCz.out.cell 4
              have z5 := HCz.out.cell 5
              have zf := HCz.out.frozen
              have zl := HCz.out.lt
              go_simp
              have hHeld' := six_held (HBu.out.ge (.inr rfl)).1 HNe.out HC6.out.lt HBu.out.size hHeld (.slice aS nS cS) (.slice aL nL cL) (.int .i64 a1) (.int .i64 a2) (.bool a3) (.int .i64 a4)
              refine hK.out _ _ ?_ (fun _ => ?_)
              · exact hHeld'
              clear hK K hHeld
              have hHeld := hHeld'
              clear hHeld'
              try simp only [Act.put, List.setIfInBounds_toArray, List.set_cons_zero, List.set_cons_succ]
              refine wpAnyH_take (i := 12) (oi := { dst := some 17, op := Op.assign (Operand.tmp 75), type := 4, pos := "law.go:141", after := #[{ on := 9, ground := Ground.data }, { on := 11, ground := Ground.chain }, { on := 0, ground := Ground.phase }, { on := 1, ground := Ground.phase }, { on := 2, ground := Ground.phase }, { on := 3, ground := Ground.phase }, { on := 4, ground := Ground.phase }, { on := 5, ground := Ground.phase }, { on := 6, ground := Ground.phase }, { on := 7, ground := Ground.phase }, { on := 8, ground := Ground.phase }, { on := 9, ground := Ground.phase }, { on := 10, ground := Ground.phase }, { on := 11, ground := Ground.phase }], guard := none }) (v := ?_) rfl (by kernel_rfl) (by kernel_rfl) (by kernel_rfl) (fun _ _ _ h => h) (Or.inl ⟨by rfl, ?_⟩) (by assumption) ?_
              rotate_left
              · intro X hSw; go_simp; try (with_reducible rfl)
              try simp only [Act.put, List.setIfInBounds_toArray, List.set_cons_zero, List.set_cons_succ]
              refine wpAnyH_done (by kernel_rfl) ?_ _
              refine gen_six ?_
              intro wf hwf
              have hHeld : Below W.heap.size W wf ∧ wf.heap[gE]? = wr.heap[gE]? := by rw [hwf]; exact hHeld
              have HCf : Hid (Blk wf _ 38 #[.slice aS nS cS, .slice aL nL cL, .int .i64 a1, .int .i64 a2, .bool a3, .int .i64 a4]) := Lib.hid (by rw [hwf]; exact blk_six HCz.out (.slice aS nS cS) (.slice aL nL cL) (.int .i64 a1) (.int .i64 a2) (.bool a3) (.int .i64 a4))
              have HBf := Lib.hid (show Bun2 _ _ wf _ _ _ _ _ _ by rw [hwf]; exact HBu.out.fr (.inr rfl) (six_fr _ _ (.slice aS nS cS) (.slice aL nL cL) (.int .i64 a1) (.int .i64 a2) (.bool a3) (.int .i64 a4)))
              have HC8 := Lib.hid (HC8.out.same (show wf.heap[g6]? = _ by rw [hwf]; exact (six_fr _ _ (.slice aS nS cS) (.slice aL nL cL) (.int .i64 a1) (.int .i64 a2) (.bool a3) (.int .i64 a4)).block g6 HC8.out.lt HNe8.out))
              have HC6 := Lib.hid (HC6r.out.same hHeld.2)
              have HHw := Lib.hid hHeld.1
              clear hwf hHeld HBu HCz
              have y0 := HCf.out.cell 0
              have y1 := HCf.out.cell 1
              have y2 := HCf.out.cell 2
              have y3 := HCf.out.cell 3
              have y4 := HCf.out.cell 4
              have y5 := HCf.out.cell 5
              have z0 := HC6.out.cell 0
              have z1 := HC6.out.cell 1
              have z2 := HC6.out.cell 2
              have z3 := HC6.out.cell 3
              have z4 := HC6.out.cell 4
              have z5 := HC6.out.cell 5
              have zf := HC6.out.frozen
              have zl := HC6.out.lt
              have hn7 := HNs.out
              have hw7 := HWk.out
              have hf7 := HFk.out
              go_wp2
              go_roundw
              case rel => exact ⟨k + 1, by omega, by go_num, ⟨_, _, _, _, _, _, _, _, _, _, _, (HBf.out.fr (.inl (.inl rfl)) (six_fr _ _ (.slice aS nS cS) (.slice aL nL cL) (.int .i64 a1) (.int .i64 a2) (.bool a3) (.int .i64 a4))).less (fun k hk => .inl hk), blk_six HC6.out (.slice aS nS cS) (.slice aL nL cL) (.int .i64 a1) (.int .i64 a2) (.bool a3) (.int .i64 a4), HC8.out.same ((six_fr _ _ (.slice aS nS cS) (.slice aL nL cL) (.int .i64 a1) (.int .i64 a2) (.bool a3) (.int .i64 a4)).block g6 HC8.out.lt HN8.out), by omega, by omega⟩, HHw.out.trans ((six_fr wf gE (.slice aS nS cS) (.slice aL nL cL) (.int .i64 a1) (.int .i64 a2) (.bool a3) (.int .i64 a4)).below (fun k hk => hk ▸ (HBf.out.ge (.inl (.inl rfl))).1) HBf.out.size)⟩
              case measure => simp [intOf]; omega
            · go_simp
              first | refine gen_allocD ?_ | refine gen_alloc ?_
              intro wA hwA hbA
              first | have hbB : Below wr.drew.heap.size wr.drew wA := ⟨hbA.os, hbA.tape, hbA.output, hbA.size, hbA.block⟩ | have hbB := hbA
              have HCz : Hid (Blk wA _ 38 #[Value.slice none 0 0, Value.slice none 0 0, Value.int IntKind.i64 0, Value.int IntKind.i64 0, Value.bool false, Value.int IntKind.i64 0]) := Lib.hid (by rw [hwA]; exact heap_alloc_new _ _)
              have HNe := Lib.hid (Nat.ne_of_lt HC6.out.lt)
              have HNe8 := Lib.hid (Nat.ne_of_lt HC8.out.lt)
              have HC8 := Lib.hid (HC8.out.below hbB HC8.out.lt)
              have HBu := Lib.hid (HBu.out.grow hbB (by rw [hwA]; simp))
              have HC6 := Lib.hid (HC6.out.below hbB HC6.out.lt)
              have HHw := Lib.hid (HHw.out.trans (hbB.mono HHw.out.size))
              clear hwA hbA hbB
              try (go_wp2_with fail)
              have hHeld' := And.intro HHw.out (blk_eq HC6.out HC6r.out)
              refine hK.out _ _ ?_ (fun _ => ?_)
              · exact hHeld'
              clear hK K hHeld
              have hHeld := hHeld'
              clear hHeld'
              try simp only [Act.put, List.setIfInBounds_toArray, List.set_cons_zero, List.set_cons_succ]
              refine wpAnyH_ready (rs := [6]) (by kernel_rfl) (by simp) ?_
              refine AllReadyH.cons (o := { dst := some 73, op := Op.call { callee := Callee.value (Operand.func 18), args := #[Operand.tmp 67, Operand.tmp 68, Operand.tmp 72], argTypes := #[23, 38, 44] }, type := 39, pos := "law.go:141", after := #[{ on := 0, ground := Ground.data }, { on := 1, ground := Ground.data }, { on := 5, ground := Ground.data }], guard := none }) rfl (fun K hK => ?_) AllReadyH.nil
              go_simp
              refine (bun2_step x.kind x.i x8 HBu.out HHw.out HU2.out HU3.out HN1.out HN2.out).mono ?_
              rintro e w5 ⟨tv5, rfl, hbu, hbl, hsame⟩
              obtain ⟨aS, nS, cS, aL, nL, cL, a1, a2, a3, a4, rfl⟩ := bun_tv hbu.two
              have HHw := Lib.hid (HHw.out.trans hbl)
              have HC6 := Lib.hid (HC6.out.same (hsame gE (by first | exact rfl | exact .inl rfl | exact .inl (.inl rfl))))
              have HC8 := Lib.hid (HC8.out.same (hsame g6 (by first | exact .inr rfl | exact .inl (.inr rfl))))
              try have HCz := Lib.hid (HCz.out.same (hsame _ (.inr rfl)))
              have HBu := Lib.hid hbu
              clear hbu hbl hsame
              go_wp2_with fail
              try (go_wp2_with fail)
              have hHeld' := And.intro HHw.out (blk_eq HC6.out HC6r.out)
              refine hK.out _ _ ?_ (fun _ => ?_)
              · exact hHeld'
              clear hK K hHeld
              have hHeld := hHeld'
              clear hHeld'
              try simp only [Act.put, List.setIfInBounds_toArray, List.set_cons_zero, List.set_cons_succ]
              refine wpAnyH_take (i := 7) (oi := { dst := some 66, op := Op.move (Operand.tmp 73), type := 39, pos := "law.go:141", after := #[{ on := 6, ground := Ground.data }], guard := none }) (v := ?_) rfl (by kernel_rfl) (by kernel_rfl) (by kernel_rfl) (fun _ _ _ h => h) (Or.inl ⟨by rfl, ?_⟩) (by assumption) ?_
              rotate_left
              · intro X hSw; go_simp; try (with_reducible rfl)
              try simp only [Act.put, List.setIfInBounds_toArray, List.set_cons_zero, List.set_cons_succ]
              refine wpAnyH_take (i := 8) (oi := { dst := some 74, op := Op.extract (Operand.tmp 66) 0, type := 38, pos := "law.go:141", after := #[{ on := 7, ground := Ground.data }], guard := none }) (v := ?_) rfl (by kernel_rfl) (by kernel_rfl) (by kernel_rfl) (fun _ _ _ h => h) (Or.inl ⟨by rfl, ?_⟩) (by assumption) ?_
              rotate_left
              · intro X hSw; go_simp; try (with_reducible rfl)
              try simp only [Act.put, List.setIfInBounds_toArray, List.set_cons_zero, List.set_cons_succ]
              refine wpAnyH_take (i := 9) (oi := { dst := some 75, op := Op.extract (Operand.tmp 66) 1, type := 4, pos := "law.go:141", after := #[{ on := 7, ground := Ground.data }, { on := 11, ground := Ground.gcOnly Departure.lateStores }], guard := none }) (v := ?_) rfl (by kernel_rfl) (by kernel_rfl) (by kernel_rfl) (fun _ _ _ h => h) (Or.inl ⟨by rfl, ?_⟩) (by assumption) ?_
              rotate_left
              · intro X hSw; go_simp; try (with_reducible rfl)
              try simp only [Act.put, List.setIfInBounds_toArray, List.set_cons_zero, List.set_cons_succ]
              refine wpAnyH_ready (rs := [11]) (by kernel_rfl) (by simp) ?_
              refine AllReadyH.cons (o := { dst := none, op := Op.store 38 (Operand.tmp 16) (Operand.tmp 74), type := 0, pos := "law.go:141", after := #[{ on := 10, ground := Ground.data }, { on := 8, ground := Ground.data }, { on := 6, ground := Ground.chain }, { on := 0, ground := Ground.phase }, { on := 1, ground := Ground.phase }, { on := 2, ground := Ground.phase }, { on := 3, ground := Ground.phase }, { on := 4, ground := Ground.phase }, { on := 5, ground := Ground.phase }, { on := 6, ground := Ground.phase }, { on := 7, ground := Ground.phase }, { on := 8, ground := Ground.phase }, { on := 9, ground := Ground.textOnly Departure.lateStores }, { on := 10, ground := Ground.phase }], guard := none }) rfl (fun K hK => ?_) AllReadyH.nil
              have z0 := HCz.out.cell 0
              have z1 := HCz.out.cell 1
              have z2 := HCz.out.cell 2
              have z3 := HCz.out.cell 3
              have z4 := HCz.out.cell 4
              have z5 := HCz.out.cell 5
              have zf := HCz.out.frozen
              have zl := HCz.out.lt
              go_simp
              have hHeld' := six_held (HBu.out.ge (.inr rfl)).1 HNe.out HC6.out.lt HBu.out.size hHeld (.slice aS nS cS) (.slice aL nL cL) (.int .i64 a1) (.int .i64 a2) (.bool a3) (.int .i64 a4)
              refine hK.out _ _ ?_ (fun _ => ?_)
              · exact hHeld'
              clear hK K hHeld
              have hHeld := hHeld'
              clear hHeld'
              try simp only [Act.put, List.setIfInBounds_toArray, List.set_cons_zero, List.set_cons_succ]
              refine wpAnyH_take (i := 12) (oi := { dst := some 17, op := Op.assign (Operand.tmp 75), type := 4, pos := "law.go:141", after := #[{ on := 9, ground := Ground.data }, { on := 11, ground := Ground.chain }, { on := 0, ground := Ground.phase }, { on := 1, ground := Ground.phase }, { on := 2, ground := Ground.phase }, { on := 3, ground := Ground.phase }, { on := 4, ground := Ground.phase }, { on := 5, ground := Ground.phase }, { on := 6, ground := Ground.phase }, { on := 7, ground := Ground.phase }, { on := 8, ground := Ground.phase }, { on := 9, ground := Ground.phase }, { on := 10, ground := Ground.phase }, { on := 11, ground := Ground.phase }], guard := none }) (v := ?_) rfl (by kernel_rfl) (by kernel_rfl) (by kernel_rfl) (fun _ _ _ h => h) (Or.inl ⟨by rfl, ?_⟩) (by assumption) ?_
              rotate_left
              · intro X hSw; go_simp; try (with_reducible rfl)
              try simp only [Act.put, List.setIfInBounds_toArray, List.set_cons_zero, List.set_cons_succ]
              refine wpAnyH_done (by kernel_rfl) ?_ _
              refine gen_six ?_
              intro wf hwf
              have hHeld : Below W.heap.size W wf ∧ wf.heap[gE]? = wr.heap[gE]? := by rw [hwf]; exact hHeld
              have HCf : Hid (Blk wf _ 38 #[.slice aS nS cS, .slice aL nL cL, .int .i64 a1, .int .i64 a2, .bool a3, .int .i64 a4]) := Lib.hid (by rw [hwf]; exact blk_six HCz.out (.slice aS nS cS) (.slice aL nL cL) (.int .i64 a1) (.int .i64 a2) (.bool a3) (.int .i64 a4))
              have HBf := Lib.hid (show Bun2 _ _ wf _ _ _ _ _ _ by rw [hwf]; exact HBu.out.fr (.inr rfl) (six_fr _ _ (.slice aS nS cS) (.slice aL nL cL) (.int .i64 a1) (.int .i64 a2) (.bool a3) (.int .i64 a4)))
              have HC8 := Lib.hid (HC8.out.same (show wf.heap[g6]? = _ by rw [hwf]; exact (six_fr _ _ (.slice aS nS cS) (.slice aL nL cL) (.int .i64 a1) (.int .i64 a2) (.bool a3) (.int .i64 a4)).block g6 HC8.out.lt HNe8.out))
              have HC6 := Lib.hid (HC6r.out.same hHeld.2)
              have HHw := Lib.hid hHeld.1
              clear hwf hHeld HBu HCz
              have y0 := HCf.out.cell 0
              have y1 := HCf.out.cell 1
              have y2 := HCf.out.cell 2
              have y3 := HCf.out.cell 3
              have y4 := HCf.out.cell 4
              have y5 := HCf.out.cell 5
              have z0 := HC6.out.cell 0
              have z1 := HC6.out.cell 1
              have z2 := HC6.out.cell 2
              have z3 := HC6.out.cell 3
              have z4 := HC6.out.cell 4
              have z5 := HC6.out.cell 5
              have zf := HC6.out.frozen
              have zl := HC6.out.lt
              have hn7 := HNs.out
              have hw7 := HWk.out
              have hf7 := HFk.out
              go_wp2
              go_roundw
              case rel => exact ⟨k + 1, by omega, by go_num, ⟨_, _, _, _, _, _, _, _, _, _, _, (HBf.out.fr (.inl (.inl rfl)) (six_fr _ _ (.slice aS nS cS) (.slice aL nL cL) (.int .i64 a1) (.int .i64 a2) (.bool a3) (.int .i64 a4))).less (fun k hk => .inl hk), blk_six HC6.out (.slice aS nS cS) (.slice aL nL cL) (.int .i64 a1) (.int .i64 a2) (.bool a3) (.int .i64 a4), HC8.out.same ((six_fr _ _ (.slice aS nS cS) (.slice aL nL cL) (.int .i64 a1) (.int .i64 a2) (.bool a3) (.int .i64 a4)).block g6 HC8.out.lt HN8.out), by omega, by omega⟩, HHw.out.trans ((six_fr wf gE (.slice aS nS cS) (.slice aL nL cL) (.int .i64 a1) (.int .i64 a2) (.bool a3) (.int .i64 a4)).below (fun k hk => hk ▸ (HBf.out.ge (.inl (.inl rfl))).1) HBf.out.size)⟩
              case measure => simp [intOf]; omega
          · have hm2 : ¬ (k : Int) < (m2 : Int) := by omega
            have hw120 : s.nw < 300 := by omega
            have hf120 : s.nf < 300 := by omega
            go_wp2_with fail
            go_at_call 10
            refine (known_any _).mono ?_
            rintro e w7 ⟨rfl, hb7⟩
            have HB7 := Lib.hid (HHw.out.trans (hb7.mono HHw.out.size))
            have HBu7 := Lib.hid (HBu.out.below hb7)
            have hC8 := HC8.out.below hb7 HC8.out.lt
            rw [HTC.out] at hC8
            have HC8 := Lib.hid hC8
            have HC6 := Lib.hid (HC6.out.below hb7 HC6.out.lt)
            have t0 := hC8.cell 0
            have t1 := hC8.cell 1
            have t2 := hC8.cell 2
            have t3 := hC8.cell 3
            have t4 := hC8.cell 4
            have t5 := hC8.cell 5
            clear hb7 hC8
            go_wp2_with fail
            go_at_call 19
            refine (bun_same (HTD.out ▸ HBu7.out.one) (by have := HW1.out; omega) (by have := HF1.out; omega)).mono ?_
            rintro e w8 ⟨rfl, hb8⟩
            have HB8 := Lib.hid (HB7.out.trans (hb8.mono HB7.out.size))
            have HBu8 := Lib.hid (HBu7.out.below hb8)
            have hC6 := HC6.out.below hb8 HC6.out.lt
            clear t0 t1 t2 t3 t4 t5
            have t0 := hC6.cell 0
            have t1 := hC6.cell 1
            have t2 := hC6.cell 2
            have t3 := hC6.cell 3
            have t4 := hC6.cell 4
            have t5 := hC6.cell 5
            clear hb8 hC6
            go_wp2_with fail
            go_at_call 19
            refine (bun_same HBu8.out.two hw120 hf120).mono ?_
            rintro e w9 ⟨rfl, hb9⟩
            have HB9 := Lib.hid (HB8.out.trans (hb9.mono HB8.out.size))
            clear hb9
            go_wp2
            go_ret
            exact ⟨rfl, HB9.out⟩
end Go.Proofs.Ytpaahbohbnfibaa
