/-
  DevDoes returns true, and changes nothing that was there, for every byte and all deeds.
-/
import Derived.Test.YtpaahbohbnfibaaBun
import Derived.Test.YtpaahbohbnfibaaRefN
namespace Go.Proofs.Ytpaahbohbnfibaa
open Go.RowKit Go.Rst Go.Dv
theorem bun_tv {H : Nat} {G : Nat → Prop} {w : World} {v tv : Value} {s : Sim} (h : Bun H G w v tv s) : ∃ (aS : Option Addr) (nS cS : Nat) (aL : Option Addr) (nL cL : Nat) (a1 a2 : Int) (a3 : Bool) (a4 : Int), tv = .agg #[.slice aS nS cS, .slice aL nL cL, .int .i64 a1, .int .i64 a2, .bool a3, .int .i64 a4] := by
  obtain ⟨D, A, _, ⟨vS, vL, lf, rfl, hS, hL, _⟩, _⟩ := h
  obtain ⟨aS, cS, rfl, _⟩ := hS.shape
  obtain ⟨aL, cL, rfl, _⟩ := hL.shape
  exact ⟨_, _, _, _, _, _, _, _, _, _, rfl⟩
theorem bun_ptr {H : Nat} {G : Nat → Prop} {w : World} {v tv : Value} {s : Sim} (h : Bun H G w v tv s) : ∃ g, v = .pointer (some ⟨g, 0, none⟩) := by
  obtain ⟨D, A, ⟨y, h1, _⟩, _⟩ := h
  exact ⟨y.g, h1⟩
theorem blk_eq {w w' : World} {g : Nat} {t : TypeId} {cs : Array Value} (h : Blk w' g t cs) (h2 : Blk w g t cs) : w'.heap[g]? = w.heap[g]? := Eq.trans h (Eq.symm h2)
theorem gen_six {K : World → Prop} {w : World} {g : Nat} {v0 v1 v2 v3 v4 v5 : Value} (h : ∀ w', w' = ((((((w.setCell ⟨g, 0, none⟩ v0).setCell ⟨g, 1, none⟩ v1).setCell ⟨g, 2, none⟩ v2).setCell ⟨g, 3, none⟩ v3).setCell ⟨g, 4, none⟩ v4).setCell ⟨g, 5, none⟩ v5) → K w') :
    K ((((((w.setCell ⟨g, 0, none⟩ v0).setCell ⟨g, 1, none⟩ v1).setCell ⟨g, 2, none⟩ v2).setCell ⟨g, 3, none⟩ v3).setCell ⟨g, 4, none⟩ v4).setCell ⟨g, 5, none⟩ v5) := h _ rfl
theorem gen_sixC {P : Program} {f : FuncId} {args : Array Value} {Q : Ending → World → Prop} {w : World} {g : Nat} {v0 v1 v2 v3 v4 v5 : Value} (h : ∀ w', w' = ((((((w.setCell ⟨g, 0, none⟩ v0).setCell ⟨g, 1, none⟩ v1).setCell ⟨g, 2, none⟩ v2).setCell ⟨g, 3, none⟩ v3).setCell ⟨g, 4, none⟩ v4).setCell ⟨g, 5, none⟩ v5) → Calls P f args w' Q) :
    Calls P f args ((((((w.setCell ⟨g, 0, none⟩ v0).setCell ⟨g, 1, none⟩ v1).setCell ⟨g, 2, none⟩ v2).setCell ⟨g, 3, none⟩ v3).setCell ⟨g, 4, none⟩ v4).setCell ⟨g, 5, none⟩ v5) Q := h _ rfl
theorem six_fr (w : World) (g : Nat) (v0 v1 v2 v3 v4 v5 : Value) : Fr (fun k => k = g) w ((((((w.setCell ⟨g, 0, none⟩ v0).setCell ⟨g, 1, none⟩ v1).setCell ⟨g, 2, none⟩ v2).setCell ⟨g, 3, none⟩ v3).setCell ⟨g, 4, none⟩ v4).setCell ⟨g, 5, none⟩ v5) :=
  fr_six (D := fun k => k = g) (Fr.refl _ w) (.inl rfl) v0 v1 v2 v3 v4 v5
theorem six_held {H g6 g9 : Nat} {W wr w : World} (hH : H ≤ g9) (hne : g6 ≠ g9) (hl : g6 < w.heap.size) (hw : H ≤ w.heap.size) (h : Below H W w ∧ w.heap[g6]? = wr.heap[g6]?) (v0 v1 v2 v3 v4 v5 : Value) :
    Below H W ((((((w.setCell ⟨g9, 0, none⟩ v0).setCell ⟨g9, 1, none⟩ v1).setCell ⟨g9, 2, none⟩ v2).setCell ⟨g9, 3, none⟩ v3).setCell ⟨g9, 4, none⟩ v4).setCell ⟨g9, 5, none⟩ v5) ∧
      ((((((w.setCell ⟨g9, 0, none⟩ v0).setCell ⟨g9, 1, none⟩ v1).setCell ⟨g9, 2, none⟩ v2).setCell ⟨g9, 3, none⟩ v3).setCell ⟨g9, 4, none⟩ v4).setCell ⟨g9, 5, none⟩ v5).heap[g6]? = wr.heap[g6]? := by
  have hfr := fr_six (Fr.refl (fun k => k = g9) w) (.inl rfl) v0 v1 v2 v3 v4 v5
  exact ⟨h.1.trans (hfr.below (fun k hk => hk ▸ hH) hw), (hfr.block g6 hl hne).trans h.2⟩
/-- A new device beside the document's own new one. -/
theorem bun_new {H n : Nat} {w1 w2 : World} {v tv : Value} (_ : H ≤ w1.heap.size) (ho : Own H w1 v (Sim.new n)) (ht : TR (fun k => H ≤ k ∧ k < w1.heap.size) w2 tv (Sim.new n)) (hb : Below w1.heap.size w1 w2) : Bun H (fun _ => False) w2 v tv (Sim.new n) := by
  obtain ⟨D, h1, h2, h3⟩ := ho
  exact ⟨D, fun k => H ≤ k ∧ k < w1.heap.size, h1.below hb, ht, fun k hk => ⟨h2 k hk, h1.lt k hk⟩, fun k hk => ⟨hk.1, Nat.lt_of_lt_of_le hk.2 hb.size⟩, fun k hk => hk.elim, Nat.le_trans h3 hb.size⟩
/-- Behind k deeds. -/
def Inv (H g6 : Nat) (w : World) (v : Value) (k : Nat) : Prop :=
  ∃ (s : Sim) (aS : Option Addr) (nS cS : Nat) (aL : Option Addr) (nL cL : Nat) (a1 a2 : Int) (a3 : Bool) (a4 : Int),
    Bun H (fun k => k = g6) w v (.agg #[.slice aS nS cS, .slice aL nL cL, .int .i64 a1, .int .i64 a2, .bool a3, .int .i64 a4]) s ∧ Blk w g6 38 #[.slice aS nS cS, .slice aL nL cL, .int .i64 a1, .int .i64 a2, .bool a3, .int .i64 a4] ∧ s.nw ≤ k ∧ s.nf ≤ k
theorem uc (n : Nat) (h : n ≤ 255) : ∃ c : UInt8, (n : Int) = (c.toNat : Int) := ⟨UInt8.ofNat n, by rw [UInt8.toNat_ofNat']; omega⟩
set_option maxRecDepth 100000 in
set_option maxHeartbeats 4000000 in
theorem does_walk (n : Nat) (v : Value) (l : List Deed) (W : World) (hn : n ≤ 255) (hv : DS W v l) :
    Calls Try.prog 4 #[.int .u8 (n : Int), v] W fun e w' => e = .returned (.bool true) ∧ Below W.heap.size W w' := by
  have HV := Lib.hid hv
  obtain ⟨A, c, rfl, _, _⟩ := hv
  obtain ⟨m, hm⟩ : ∃ m, m = l.length := ⟨_, rfl⟩
  rw [← hm] at HV ⊢
  have HM := Lib.hid hm
  clear hm
  obtain ⟨n9, hn9⟩ : ∃ n9, n9 = n % 9 := ⟨_, rfl⟩
  have n0 : (0 : Int) ≤ (n : Int) := by omega
  have n1 : (n : Int) % 9 = (n9 : Int) := by omega
  have n2 : (n : Int).tmod 9 = (n9 : Int) := by rw [Int.tmod_eq_emod_of_nonneg (by omega)]; omega
  have n3 : IntKind.i64.wrap (n9 : Int) = (n9 : Int) := by rw [IntKind.wrap_i64]; omega
  have N9 := Lib.hid (show n9 ≤ 4096 by omega)
  clear hn9
  go_enter Try.func4, Try.ntmps4
  go_wp2_with fail
  go_at_call 16
  refine (much_any HV.out).mono ?_
  rintro e w1 ⟨r, rfl, hr, hb1⟩
  rw [← HM.out] at hr
  have HB1 := Lib.hid hb1
  have HR := Lib.hid hr
  clear hb1 hr
  cases r with
  | true =>
    go_wp2_with fail
    go_at_call 10
    refine (known_any _).mono ?_
    rintro e w2 ⟨rfl, hb⟩
    have HB2 := Lib.hid (HB1.out.trans (hb.mono HB1.out.size))
    clear hb
    go_wp2
    go_ret
    exact ⟨rfl, HB2.out⟩
  | false =>
    have hm60 : m ≤ 60 := HR.out rfl
    go_wp2_with fail
    go_at_call 10
    refine (known_any _).mono ?_
    rintro e w2 ⟨rfl, hb⟩
    have HB2 := Lib.hid (HB1.out.trans (hb.mono HB1.out.size))
    clear hb
    go_wp2_with fail
    go_at_call 11
    refine (own_new n9 _ N9.out HB2.out.size).mono ?_
    rintro e w3 ⟨gd, rfl, ho, hb⟩
    have HO := Lib.hid ho
    have HB3 := Lib.hid (HB2.out.trans hb)
    clear ho hb
    go_wp2_with fail
    go_at_call 17
    refine (refnew_any (A := fun k => W.heap.size ≤ k ∧ k < w3.heap.size) n9 _ N9.out (fun k hk => hk.2)).mono ?_
    rintro e w4 ⟨tv, rfl, ht, hb⟩
    have hbu := bun_new HB3.out.size HO.out ht hb
    obtain ⟨aS, nS, cS, aL, nL, cL, a1, a2, a3, a4, rfl⟩ := bun_tv hbu
    have HB4 := Lib.hid (HB3.out.trans (hb.mono HB3.out.size))
    have HBu := Lib.hid hbu
    clear ht hb hbu
    go_wp2
    obtain ⟨W5, hW5⟩ : ∃ W5, W5 = w4.alloc (Obj.cells #[Value.slice aS nS cS, Value.slice aL nL cL, Value.int IntKind.i64 a1, Value.int IntKind.i64 a2, Value.bool a3, Value.int IntKind.i64 a4] 38) := ⟨_, rfl⟩
    obtain ⟨g6, hg6⟩ : ∃ g6, g6 = w4.heap.size := ⟨_, rfl⟩
    rw [← hW5, ← hg6]
    have hb5 : Below w4.heap.size w4 W5 := by rw [hW5]; exact (Below.refl _ _).alloc (Nat.le_refl _) _
    have HC6 := Lib.hid (show Blk W5 g6 38 #[Value.slice aS nS cS, Value.slice aL nL cL, Value.int IntKind.i64 a1, Value.int IntKind.i64 a2, Value.bool a3, Value.int IntKind.i64 a4] by rw [hW5, hg6]; exact heap_alloc_new w4 _)
    have HB5 := Lib.hid (HB4.out.trans (hb5.mono HB4.out.size))
    have HI := Lib.hid (show Inv W.heap.size g6 W5 (.pointer (some ⟨gd, 0, none⟩)) 0 from ⟨Sim.new n9, _, _, _, _, _, _, _, _, _, _, (HBu.out.grow hb5 (by rw [hW5]; simp)).less (fun k hk => .inr (hk.trans hg6)), HC6.out, Nat.le_refl _, Nat.le_refl _⟩)
    clear hb5 hW5 hg6 HBu HC6
    go_loopw [8, 9, 10] (fun i _ _ wr => ∃ k : Nat, k ≤ m ∧ i = .int .i64 k ∧ Inv W.heap.size g6 wr (.pointer (some ⟨gd, 0, none⟩)) k ∧ Below W.heap.size W wr) (fun i _ _ _ => m - (intOf i).toNat)
    case atStart => exact ⟨0, Nat.zero_le _, rfl, HI.out, HB5.out⟩
    case round =>
      obtain ⟨k, hk, rfl, hinv, hbel⟩ := hrel
      clear HI HB5
      obtain ⟨s, aS, nS, cS, aL, nL, cL, a1, a2, a3, a4, hbu, hc6, hw, hf⟩ := hinv
      have HBu := Lib.hid hbu
      have HC6 := Lib.hid hc6
      have HHw := Lib.hid hbel
      clear hbu hc6 hbel
      by_cases hlt : k < m
      · have i6 : (k : Int) < (m : Int) := by omega
        obtain ⟨b, off, x, hA, hbb, hx, hd⟩ := HV.out.at_ HM.out hlt
        subst hA
        obtain ⟨d0, d1, ⟨u2, d2, hu2⟩, ⟨u3, d4, hu3⟩, d6, hk9, hv9, _, _, _⟩ := hd
        obtain ⟨x8, hx8⟩ := uc x.v hv9
        rw [hx8] at d6
        have HU2 := Lib.hid hu2
        have HU3 := Lib.hid hu3
        obtain ⟨A2, c2, rfl, _⟩ := hu2
        obtain ⟨A3, c3, rfl, _⟩ := hu3
        obtain ⟨l2, hl2⟩ : ∃ l2, l2 = x.b.length := ⟨_, rfl⟩
        obtain ⟨l3, hl3⟩ : ∃ l3, l3 = x.keep.length := ⟨_, rfl⟩
        rw [← hl2] at d2 HU2
        rw [← hl3] at d4 HU3
        have HN1 := Lib.hid (show s.nw < 299 by omega)
        have HN2 := Lib.hid (show s.nf < 299 by omega)
        have HNs := Lib.hid (done_n s (x.kind % 9) x.i x.b x.keep x8)
        have HWk := Lib.hid hw
        have HFk := Lib.hid hf
        have HC6r := HC6
        clear hx hx8 hl2 hl3 hw hf hk9 hv9
        go_wp2_with fail
        have HBu := Lib.hid (HBu.out.below drew_b)
        have HHw := Lib.hid HHw.out.drew
        have HC6 : Hid (Blk wr.drew g6 38 _) := HC6
        refine wp_region_held_drew (S := fun X => Below W.heap.size W X ∧ X.heap[g6]? = wr.heap[g6]?) (by kernel_rfl) ⟨HHw.out, rfl⟩ (fun hHeld => ?_)
        refine wpAnyH_take (i := 0) (oi := { dst := some 38, op := Op.move (Operand.tmp 5), type := 23, pos := "law.go:105", after := #[], guard := none }) (v := ?_) rfl (by kernel_rfl) (by kernel_rfl) (by kernel_rfl) (fun _ _ _ h => h) (Or.inl ⟨by rfl, ?_⟩) (by assumption) ?_
        rotate_left
        · intro X hSw; go_simp; try (with_reducible rfl)
        try simp only [Act.put, List.setIfInBounds_toArray, List.set_cons_zero, List.set_cons_succ]
        refine wpAnyH_take (i := 1) (oi := { dst := some 39, op := Op.load 38 (Operand.tmp 6), type := 38, pos := "law.go:105", after := #[], guard := none }) (v := ?_) rfl (by kernel_rfl) (by kernel_rfl) (by kernel_rfl) (fun _ _ _ h => h) (Or.inl ⟨by rfl, ?_⟩) (by assumption) ?_
        rotate_left
        · intro X hSw; have hq : Blk X g6 38 _ := HC6r.out.same hSw.2; have hq0 := hq.cell 0; have hq1 := hq.cell 1; have hq2 := hq.cell 2; have hq3 := hq.cell 3; have hq4 := hq.cell 4; have hq5 := hq.cell 5; go_simp; try (with_reducible rfl)
        try simp only [Act.put, List.setIfInBounds_toArray, List.set_cons_zero, List.set_cons_succ]
        refine wpAnyH_take (i := 2) (oi := { dst := some 40, op := Op.move (Operand.tmp 1), type := 33, pos := "law.go:105", after := #[], guard := none }) (v := ?_) rfl (by kernel_rfl) (by kernel_rfl) (by kernel_rfl) (fun _ _ _ h => h) (Or.inl ⟨by rfl, ?_⟩) (by assumption) ?_
        rotate_left
        · intro X hSw; go_simp; try (with_reducible rfl)
        try simp only [Act.put, List.setIfInBounds_toArray, List.set_cons_zero, List.set_cons_succ]
        refine wpAnyH_take (i := 3) (oi := { dst := some 41, op := Op.move (Operand.tmp 8), type := 3, pos := "law.go:105", after := #[], guard := none }) (v := ?_) rfl (by kernel_rfl) (by kernel_rfl) (by kernel_rfl) (fun _ _ _ h => h) (Or.inl ⟨by rfl, ?_⟩) (by assumption) ?_
        rotate_left
        · intro X hSw; go_simp; try (with_reducible rfl)
        try simp only [Act.put, List.setIfInBounds_toArray, List.set_cons_zero, List.set_cons_succ]
        refine wpAnyH_take (i := 4) (oi := { dst := some 42, op := Op.indexAddr 33 (Operand.tmp 40) (Operand.tmp 41), type := 0, pos := "law.go:105", after := #[{ on := 2, ground := Ground.data }, { on := 3, ground := Ground.data }], guard := none }) (v := ?_) rfl (by kernel_rfl) (by kernel_rfl) (by kernel_rfl) (fun _ _ _ h => h) (Or.inl ⟨by rfl, ?_⟩) (by assumption) ?_
        rotate_left
        · intro X hSw; go_simp; try (with_reducible rfl)
        try simp only [Act.put, List.setIfInBounds_toArray, List.set_cons_zero, List.set_cons_succ]
        refine wpAnyH_take (i := 5) (oi := { dst := some 43, op := Op.load 44 (Operand.tmp 42), type := 44, pos := "law.go:105", after := #[{ on := 4, ground := Ground.data }], guard := none }) (v := ?_) rfl (by kernel_rfl) (by kernel_rfl) (by kernel_rfl) (fun _ _ _ h => h) (Or.inl ⟨by rfl, ?_⟩) (by assumption) ?_
        rotate_left
        · intro X hSw; have p0 := (hSw.1.cell (p := ⟨b, off + k * 5, none⟩) hbb).trans d0; have p1 := (hSw.1.cell (p := ⟨b, off + k * 5 + 1, none⟩) hbb).trans d1; have p2 := (hSw.1.cell (p := ⟨b, off + k * 5 + 2, none⟩) hbb).trans d2; have p3 := (hSw.1.cell (p := ⟨b, off + k * 5 + 3, none⟩) hbb).trans d4; have p4 := (hSw.1.cell (p := ⟨b, off + k * 5 + 4, none⟩) hbb).trans d6; go_simp; try (with_reducible rfl)
        try simp only [Act.put, List.setIfInBounds_toArray, List.set_cons_zero, List.set_cons_succ]
        refine wpAnyH_ready (rs := [6, 10]) (by kernel_rfl) (by simp) ?_
        refine AllReadyH.cons (o := { dst := some 44, op := Op.call { callee := Callee.value (Operand.func 18), args := #[Operand.tmp 38, Operand.tmp 39, Operand.tmp 43], argTypes := #[23, 38, 44] }, type := 39, pos := "law.go:105", after := #[{ on := 0, ground := Ground.data }, { on := 1, ground := Ground.data }, { on := 5, ground := Ground.data }], guard := none }) rfl (fun K hK => ?_) (AllReadyH.cons (o := { dst := some 9, op := Op.alloc 38, type := 0, pos := "law.go:105", after := #[], guard := none }) rfl (fun K hK => ?_) AllReadyH.nil)
        · go_simp
          refine (bun_step x.kind x.i x8 HBu.out HHw.out HU2.out HU3.out HN1.out HN2.out).mono ?_
          rintro e w5 ⟨tv5, rfl, hbu, hbl, hsame⟩
          obtain ⟨aS, nS, cS, aL, nL, cL, a1, a2, a3, a4, rfl⟩ := bun_tv hbu
          have HHw := Lib.hid (HHw.out.trans hbl)
          have HC6 := Lib.hid (HC6.out.same (hsame g6 (by first | exact rfl | exact .inl rfl)))
          try have HCz := Lib.hid (HCz.out.same (hsame _ (.inr rfl)))
          have HBu := Lib.hid hbu
          clear hbu hbl hsame
          go_wp2_with fail
          try (go_wp2_with fail)
          have hHeld' := And.intro HHw.out (blk_eq HC6.out HC6r.out)
          refine hK.out _ _ ?_ (fun _ => ?_)
          · exact hHeld'
          clear hK K hHeld
          have hHeld := hHeld'
          clear hHeld'
          try simp only [Act.put, List.setIfInBounds_toArray, List.set_cons_zero, List.set_cons_succ]
          refine wpAnyH_take (i := 7) (oi := { dst := some 37, op := Op.move (Operand.tmp 44), type := 39, pos := "law.go:105", after := #[{ on := 6, ground := Ground.data }], guard := none }) (v := ?_) rfl (by kernel_rfl) (by kernel_rfl) (by kernel_rfl) (fun _ _ _ h => h) (Or.inl ⟨by rfl, ?_⟩) (by assumption) ?_
          rotate_left
          · intro X hSw; go_simp; try (with_reducible rfl)
          try simp only [Act.put, List.setIfInBounds_toArray, List.set_cons_zero, List.set_cons_succ]
          refine wpAnyH_take (i := 8) (oi := { dst := some 45, op := Op.extract (Operand.tmp 37) 0, type := 38, pos := "law.go:105", after := #[{ on := 7, ground := Ground.data }], guard := none }) (v := ?_) rfl (by kernel_rfl) (by kernel_rfl) (by kernel_rfl) (fun _ _ _ h => h) (Or.inl ⟨by rfl, ?_⟩) (by assumption) ?_
          rotate_left
          · intro X hSw; go_simp; try (with_reducible rfl)
          try simp only [Act.put, List.setIfInBounds_toArray, List.set_cons_zero, List.set_cons_succ]
          refine wpAnyH_take (i := 9) (oi := { dst := some 46, op := Op.extract (Operand.tmp 37) 1, type := 4, pos := "law.go:105", after := #[{ on := 7, ground := Ground.data }, { on := 11, ground := Ground.gcOnly Departure.lateStores }], guard := none }) (v := ?_) rfl (by kernel_rfl) (by kernel_rfl) (by kernel_rfl) (fun _ _ _ h => h) (Or.inl ⟨by rfl, ?_⟩) (by assumption) ?_
          rotate_left
          · intro X hSw; go_simp; try (with_reducible rfl)
          try simp only [Act.put, List.setIfInBounds_toArray, List.set_cons_zero, List.set_cons_succ]
          refine wpAnyH_ready (rs := [10]) (by kernel_rfl) (by simp) ?_
          refine AllReadyH.cons (o := { dst := some 9, op := Op.alloc 38, type := 0, pos := "law.go:105", after := #[], guard := none }) rfl (fun K hK => ?_) AllReadyH.nil
          go_simp
          first | refine gen_allocD ?_ | refine gen_alloc ?_
          intro wA hwA hbA
          first | have hbB : Below wr.drew.heap.size wr.drew wA := ⟨hbA.os, hbA.tape, hbA.output, hbA.size, hbA.block⟩ | have hbB := hbA
          have HCz : Hid (Blk wA _ 38 #[Value.slice none 0 0, Value.slice none 0 0, Value.int IntKind.i64 0, Value.int IntKind.i64 0, Value.bool false, Value.int IntKind.i64 0]) := Lib.hid (by rw [hwA]; exact heap_alloc_new _ _)
          have HNe := Lib.hid (Nat.ne_of_lt HC6.out.lt)
          have HBu := Lib.hid (HBu.out.grow hbB (by rw [hwA]; simp))
          have HC6 := Lib.hid (HC6.out.below hbB HC6.out.lt)
          have HHw := Lib.hid (HHw.out.trans (hbB.mono HHw.out.size))
          clear hwA hbA hbB
          try (go_wp2_with fail)
          have hHeld' := And.intro HHw.out (blk_eq HC6.out HC6r.out)
          refine hK.out _ _ ?_ (fun _ => ?_)
          · exact hHeld'
          clear hK K hHeld
          have hHeld := hHeld'
          clear hHeld'
          try simp only [Act.put, List.setIfInBounds_toArray, List.set_cons_zero, List.set_cons_succ]
          refine wpAnyH_ready (rs := [11]) (by kernel_rfl) (by simp) ?_
          refine AllReadyH.cons (o := { dst := none, op := Op.store 38 (Operand.tmp 9) (Operand.tmp 45), type := 0, pos := "law.go:105", after := #[{ on := 10, ground := Ground.data }, { on := 8, ground := Ground.data }, { on := 6, ground := Ground.chain }, { on := 0, ground := Ground.phase }, { on := 1, ground := Ground.phase }, { on := 2, ground := Ground.phase }, { on := 3, ground := Ground.phase }, { on := 4, ground := Ground.phase }, { on := 5, ground := Ground.phase }, { on := 6, ground := Ground.phase }, { on := 7, ground := Ground.phase }, { on := 8, ground := Ground.phase }, { on := 9, ground := Ground.textOnly Departure.lateStores }, { on := 10, ground := Ground.phase }], guard := none }) rfl (fun K hK => ?_) AllReadyH.nil
          have z0 := HCz.out.cell 0
          have z1 := HCz.out.cell 1
          have z2 := HCz.out.cell 2
          have z3 := HCz.out.cell 3
          have z4 := HCz.out.cell 4
          have z5 := HCz.out.cell 5
          have zf := HCz.out.frozen
          have zl := HCz.out.lt
          go_simp
          have hHeld' := six_held (HBu.out.ge (.inr rfl)).1 HNe.out HC6.out.lt HBu.out.size hHeld (.slice aS nS cS) (.slice aL nL cL) (.int .i64 a1) (.int .i64 a2) (.bool a3) (.int .i64 a4)
          refine hK.out _ _ ?_ (fun _ => ?_)
          · exact hHeld'
          clear hK K hHeld
          have hHeld := hHeld'
          clear hHeld'
          try simp only [Act.put, List.setIfInBounds_toArray, List.set_cons_zero, List.set_cons_succ]
          refine wpAnyH_take (i := 12) (oi := { dst := some 10, op := Op.assign (Operand.tmp 46), type := 4, pos := "law.go:105", after := #[{ on := 9, ground := Ground.data }, { on := 11, ground := Ground.chain }, { on := 0, ground := Ground.phase }, { on := 1, ground := Ground.phase }, { on := 2, ground := Ground.phase }, { on := 3, ground := Ground.phase }, { on := 4, ground := Ground.phase }, { on := 5, ground := Ground.phase }, { on := 6, ground := Ground.phase }, { on := 7, ground := Ground.phase }, { on := 8, ground := Ground.phase }, { on := 9, ground := Ground.phase }, { on := 10, ground := Ground.phase }, { on := 11, ground := Ground.phase }], guard := none }) (v := ?_) rfl (by kernel_rfl) (by kernel_rfl) (by kernel_rfl) (fun _ _ _ h => h) (Or.inl ⟨by rfl, ?_⟩) (by assumption) ?_
          rotate_left
          · intro X hSw; go_simp; try (with_reducible rfl)
          try simp only [Act.put, List.setIfInBounds_toArray, List.set_cons_zero, List.set_cons_succ]
          refine wpAnyH_done (by kernel_rfl) ?_ _
          refine gen_six ?_
          intro wf hwf
          have hHeld : Below W.heap.size W wf ∧ wf.heap[g6]? = wr.heap[g6]? := by rw [hwf]; exact hHeld
          have HCf : Hid (Blk wf _ 38 #[.slice aS nS cS, .slice aL nL cL, .int .i64 a1, .int .i64 a2, .bool a3, .int .i64 a4]) := Lib.hid (by rw [hwf]; exact blk_six HCz.out (.slice aS nS cS) (.slice aL nL cL) (.int .i64 a1) (.int .i64 a2) (.bool a3) (.int .i64 a4))
          have HBf := Lib.hid (show Bun _ _ wf _ _ _ by rw [hwf]; exact HBu.out.fr (.inr rfl) (six_fr _ _ (.slice aS nS cS) (.slice aL nL cL) (.int .i64 a1) (.int .i64 a2) (.bool a3) (.int .i64 a4)))
          have HC6 := Lib.hid (HC6r.out.same hHeld.2)
          have HHw := Lib.hid hHeld.1
          clear hwf hHeld HBu HCz
          have y0 := HCf.out.cell 0
          have y1 := HCf.out.cell 1
          have y2 := HCf.out.cell 2
          have y3 := HCf.out.cell 3
          have y4 := HCf.out.cell 4
          have y5 := HCf.out.cell 5
          have z0 := HC6.out.cell 0
          have z1 := HC6.out.cell 1
          have z2 := HC6.out.cell 2
          have z3 := HC6.out.cell 3
          have z4 := HC6.out.cell 4
          have z5 := HC6.out.cell 5
          have zf := HC6.out.frozen
          have zl := HC6.out.lt
          go_wp2_with fail
          refine gen_sixC ?_
          intro wg hwg
          have HCg : Hid (Blk wg g6 38 #[.slice aS nS cS, .slice aL nL cL, .int .i64 a1, .int .i64 a2, .bool a3, .int .i64 a4]) := Lib.hid (by rw [hwg]; exact blk_six HC6.out (.slice aS nS cS) (.slice aL nL cL) (.int .i64 a1) (.int .i64 a2) (.bool a3) (.int .i64 a4))
          have HBg := Lib.hid (show Bun _ _ wg _ _ _ by rw [hwg]; exact HBf.out.fr (.inl rfl) (six_fr _ _ (.slice aS nS cS) (.slice aL nL cL) (.int .i64 a1) (.int .i64 a2) (.bool a3) (.int .i64 a4)))
          have HHg := Lib.hid (HHw.out.trans (show Below W.heap.size wf wg by rw [hwg]; exact (six_fr wf g6 (.slice aS nS cS) (.slice aL nL cL) (.int .i64 a1) (.int .i64 a2) (.bool a3) (.int .i64 a4)).below (fun k hk => hk ▸ (HBf.out.ge (.inl rfl)).1) HBf.out.size))
          clear hwg y0 z0 y1 z1 y2 z2 y3 z3 y4 z4 y5 z5 zf zl
          have hn7 := HNs.out
          have hw7 := HWk.out
          have hf7 := HFk.out
          go_at_call 19
          refine (bun_same HBg.out (by omega) (by omega)).mono ?_
          rintro e w7 ⟨rfl, hb7⟩
          have HR7 := Lib.hid (show Inv W.heap.size g6 w7 _ (k + 1) from ⟨_, _, _, _, _, _, _, _, _, _, _, (HBg.out.less (fun k hk => .inl hk)).below hb7, HCg.out.below hb7 HCg.out.lt, by omega, by omega⟩)
          have HB7 := Lib.hid (HHg.out.trans (hb7.mono HHg.out.size))
          clear hb7 hn7 hw7 hf7
          go_wp2
          go_roundw
          case rel => exact ⟨k + 1, by omega, by go_num, HR7.out, HB7.out⟩
          case measure => simp [intOf]; omega
        · go_simp
          first | refine gen_allocD ?_ | refine gen_alloc ?_
          intro wA hwA hbA
          first | have hbB : Below wr.drew.heap.size wr.drew wA := ⟨hbA.os, hbA.tape, hbA.output, hbA.size, hbA.block⟩ | have hbB := hbA
          have HCz : Hid (Blk wA _ 38 #[Value.slice none 0 0, Value.slice none 0 0, Value.int IntKind.i64 0, Value.int IntKind.i64 0, Value.bool false, Value.int IntKind.i64 0]) := Lib.hid (by rw [hwA]; exact heap_alloc_new _ _)
          have HNe := Lib.hid (Nat.ne_of_lt HC6.out.lt)
          have HBu := Lib.hid (HBu.out.grow hbB (by rw [hwA]; simp))
          have HC6 := Lib.hid (HC6.out.below hbB HC6.out.lt)
          have HHw := Lib.hid (HHw.out.trans (hbB.mono HHw.out.size))
          clear hwA hbA hbB
          try (go_wp2_with fail)
          have hHeld' := And.intro HHw.out (blk_eq HC6.out HC6r.out)
          refine hK.out _ _ ?_ (fun _ => ?_)
          · exact hHeld'
          clear hK K hHeld
          have hHeld := hHeld'
          clear hHeld'
          try simp only [Act.put, List.setIfInBounds_toArray, List.set_cons_zero, List.set_cons_succ]
          refine wpAnyH_ready (rs := [6]) (by kernel_rfl) (by simp) ?_
          refine AllReadyH.cons (o := { dst := some 44, op := Op.call { callee := Callee.value (Operand.func 18), args := #[Operand.tmp 38, Operand.tmp 39, Operand.tmp 43], argTypes := #[23, 38, 44] }, type := 39, pos := "law.go:105", after := #[{ on := 0, ground := Ground.data }, { on := 1, ground := Ground.data }, { on := 5, ground := Ground.data }], guard := none }) rfl (fun K hK => ?_) AllReadyH.nil
          go_simp
          refine (bun_step x.kind x.i x8 HBu.out HHw.out HU2.out HU3.out HN1.out HN2.out).mono ?_
          rintro e w5 ⟨tv5, rfl, hbu, hbl, hsame⟩
          obtain ⟨aS, nS, cS, aL, nL, cL, a1, a2, a3, a4, rfl⟩ := bun_tv hbu
          have HHw := Lib.hid (HHw.out.trans hbl)
          have HC6 := Lib.hid (HC6.out.same (hsame g6 (by first | exact rfl | exact .inl rfl)))
          try have HCz := Lib.hid (HCz.out.same (hsame _ (.inr rfl)))
          have HBu := Lib.hid hbu
          clear hbu hbl hsame
          go_wp2_with fail
          try (go_wp2_with fail)
          have hHeld' := And.intro HHw.out (blk_eq HC6.out HC6r.out)
          refine hK.out _ _ ?_ (fun _ => ?_)
          · exact hHeld'
          clear hK K hHeld
          have hHeld := hHeld'
          clear hHeld'
          try simp only [Act.put, List.setIfInBounds_toArray, List.set_cons_zero, List.set_cons_succ]
          refine wpAnyH_take (i := 7) (oi := { dst := some 37, op := Op.move (Operand.tmp 44), type := 39, pos := "law.go:105", after := #[{ on := 6, ground := Ground.data }], guard := none }) (v := ?_) rfl (by kernel_rfl) (by kernel_rfl) (by kernel_rfl) (fun _ _ _ h => h) (Or.inl ⟨by rfl, ?_⟩) (by assumption) ?_
          rotate_left
          · intro X hSw; go_simp; try (with_reducible rfl)
          try simp only [Act.put, List.setIfInBounds_toArray, List.set_cons_zero, List.set_cons_succ]
          refine wpAnyH_take (i := 8) (oi := { dst := some 45, op := Op.extract (Operand.tmp 37) 0, type := 38, pos := "law.go:105", after := #[{ on := 7, ground := Ground.data }], guard := none }) (v := ?_) rfl (by kernel_rfl) (by kernel_rfl) (by kernel_rfl) (fun _ _ _ h => h) (Or.inl ⟨by rfl, ?_⟩) (by assumption) ?_
          rotate_left
          · intro X hSw; go_simp; try (with_reducible rfl)
          try simp only [Act.put, List.setIfInBounds_toArray, List.set_cons_zero, List.set_cons_succ]
          refine wpAnyH_take (i := 9) (oi := { dst := some 46, op := Op.extract (Operand.tmp 37) 1, type := 4, pos := "law.go:105", after := #[{ on := 7, ground := Ground.data }, { on := 11, ground := Ground.gcOnly Departure.lateStores }], guard := none }) (v := ?_) rfl (by kernel_rfl) (by kernel_rfl) (by kernel_rfl) (fun _ _ _ h => h) (Or.inl ⟨by rfl, ?_⟩) (by assumption) ?_
          rotate_left
          · intro X hSw; go_simp; try (with_reducible rfl)
          try simp only [Act.put, List.setIfInBounds_toArray, List.set_cons_zero, List.set_cons_succ]
          refine wpAnyH_ready (rs := [11]) (by kernel_rfl) (by simp) ?_
          refine AllReadyH.cons (o := { dst := none, op := Op.store 38 (Operand.tmp 9) (Operand.tmp 45), type := 0, pos := "law.go:105", after := #[{ on := 10, ground := Ground.data }, { on := 8, ground := Ground.data }, { on := 6, ground := Ground.chain }, { on := 0, ground := Ground.phase }, { on := 1, ground := Ground.phase }, { on := 2, ground := Ground.phase }, { on := 3, ground := Ground.phase }, { on := 4, ground := Ground.phase }, { on := 5, ground := Ground.phase }, { on := 6, ground := Ground.phase }, { on := 7, ground := Ground.phase }, { on := 8, ground := Ground.phase }, { on := 9, ground := Ground.textOnly Departure.lateStores }, { on := 10, ground := Ground.phase }], guard := none }) rfl (fun K hK => ?_) AllReadyH.nil
          have z0 := HCz.out.cell 0
          have z1 := HCz.out.cell 1
          have z2 := HCz.out.cell 2
          have z3 := HCz.out.cell 3
          have z4 := HCz.out.cell 4
          have z5 := HCz.out.cell 5
          have zf := HCz.out.frozen
          have zl := HCz.out.lt
          go_simp
          have hHeld' := six_held (HBu.out.ge (.inr rfl)).1 HNe.out HC6.out.lt HBu.out.size hHeld (.slice aS nS cS) (.slice aL nL cL) (.int .i64 a1) (.int .i64 a2) (.bool a3) (.int .i64 a4)
          refine hK.out _ _ ?_ (fun _ => ?_)
          · exact hHeld'
          clear hK K hHeld
          have hHeld := hHeld'
          clear hHeld'
          try simp only [Act.put, List.setIfInBounds_toArray, List.set_cons_zero, List.set_cons_succ]
          refine wpAnyH_take (i := 12) (oi := { dst := some 10, op := Op.assign (Operand.tmp 46), type := 4, pos := "law.go:105", after := #[{ on := 9, ground := Ground.data }, { on := 11, ground := Ground.chain }, { on := 0, ground := Ground.phase }, { on := 1, ground := Ground.phase }, { on := 2, ground := Ground.phase }, { on := 3, ground := Ground.phase }, { on := 4, ground := Ground.phase }, { on := 5, ground := Ground.phase }, { on := 6, ground := Ground.phase }, { on := 7, ground := Ground.phase }, { on := 8, ground := Ground.phase }, { on := 9, ground := Ground.phase }, { on := 10, ground := Ground.phase }, { on := 11, ground := Ground.phase }], guard := none }) (v := ?_) rfl (by kernel_rfl) (by kernel_rfl) (by kernel_rfl) (fun _ _ _ h => h) (Or.inl ⟨by rfl, ?_⟩) (by assumption) ?_
          rotate_left
          · intro X hSw; go_simp; try (with_reducible rfl)
          try simp only [Act.put, List.setIfInBounds_toArray, List.set_cons_zero, List.set_cons_succ]
          refine wpAnyH_done (by kernel_rfl) ?_ _
          refine gen_six ?_
          intro wf hwf
          have hHeld : Below W.heap.size W wf ∧ wf.heap[g6]? = wr.heap[g6]? := by rw [hwf]; exact hHeld
          have HCf : Hid (Blk wf _ 38 #[.slice aS nS cS, .slice aL nL cL, .int .i64 a1, .int .i64 a2, .bool a3, .int .i64 a4]) := Lib.hid (by rw [hwf]; exact blk_six HCz.out (.slice aS nS cS) (.slice aL nL cL) (.int .i64 a1) (.int .i64 a2) (.bool a3) (.int .i64 a4))
          have HBf := Lib.hid (show Bun _ _ wf _ _ _ by rw [hwf]; exact HBu.out.fr (.inr rfl) (six_fr _ _ (.slice aS nS cS) (.slice aL nL cL) (.int .i64 a1) (.int .i64 a2) (.bool a3) (.int .i64 a4)))
          have HC6 := Lib.hid (HC6r.out.same hHeld.2)
          have HHw := Lib.hid hHeld.1
          clear hwf hHeld HBu HCz
          have y0 := HCf.out.cell 0
          have y1 := HCf.out.cell 1
          have y2 := HCf.out.cell 2
          have y3 := HCf.out.cell 3
          have y4 := HCf.out.cell 4
          have y5 := HCf.out.cell 5
          have z0 := HC6.out.cell 0
          have z1 := HC6.out.cell 1
          have z2 := HC6.out.cell 2
          have z3 := HC6.out.cell 3
          have z4 := HC6.out.cell 4
          have z5 := HC6.out.cell 5
          have zf := HC6.out.frozen
          have zl := HC6.out.lt
          go_wp2_with fail
          refine gen_sixC ?_
          intro wg hwg
          have HCg : Hid (Blk wg g6 38 #[.slice aS nS cS, .slice aL nL cL, .int .i64 a1, .int .i64 a2, .bool a3, .int .i64 a4]) := Lib.hid (by rw [hwg]; exact blk_six HC6.out (.slice aS nS cS) (.slice aL nL cL) (.int .i64 a1) (.int .i64 a2) (.bool a3) (.int .i64 a4))
          have HBg := Lib.hid (show Bun _ _ wg _ _ _ by rw [hwg]; exact HBf.out.fr (.inl rfl) (six_fr _ _ (.slice aS nS cS) (.slice aL nL cL) (.int .i64 a1) (.int .i64 a2) (.bool a3) (.int .i64 a4)))
          have HHg := Lib.hid (HHw.out.trans (show Below W.heap.size wf wg by rw [hwg]; exact (six_fr wf g6 (.slice aS nS cS) (.slice aL nL cL) (.int .i64 a1) (.int .i64 a2) (.bool a3) (.int .i64 a4)).below (fun k hk => hk ▸ (HBf.out.ge (.inl rfl)).1) HBf.out.size))
          clear hwg y0 z0 y1 z1 y2 z2 y3 z3 y4 z4 y5 z5 zf zl
          have hn7 := HNs.out
          have hw7 := HWk.out
          have hf7 := HFk.out
          go_at_call 19
          refine (bun_same HBg.out (by omega) (by omega)).mono ?_
          rintro e w7 ⟨rfl, hb7⟩
          have HR7 := Lib.hid (show Inv W.heap.size g6 w7 _ (k + 1) from ⟨_, _, _, _, _, _, _, _, _, _, _, (HBg.out.less (fun k hk => .inl hk)).below hb7, HCg.out.below hb7 HCg.out.lt, by omega, by omega⟩)
          have HB7 := Lib.hid (HHg.out.trans (hb7.mono HHg.out.size))
          clear hb7 hn7 hw7 hf7
          go_wp2
          go_roundw
          case rel => exact ⟨k + 1, by omega, by go_num, HR7.out, HB7.out⟩
          case measure => simp [intOf]; omega
      · have hm2 : ¬ (k : Int) < (m : Int) := by omega
        have c0 := HC6.out.cell 0
        have c1 := HC6.out.cell 1
        have c2 := HC6.out.cell 2
        have c3 := HC6.out.cell 3
        have c4 := HC6.out.cell 4
        have c5 := HC6.out.cell 5
        go_wp2_with fail
        go_at_call 19
        refine (bun_same HBu.out (by omega) (by omega)).mono ?_
        rintro e w7 ⟨rfl, hb7⟩
        have HB7 := Lib.hid (HHw.out.trans (hb7.mono HHw.out.size))
        clear hb7
        go_wp2
        go_ret
        exact ⟨rfl, HB7.out⟩
end Go.Proofs.Ytpaahbohbnfibaa
