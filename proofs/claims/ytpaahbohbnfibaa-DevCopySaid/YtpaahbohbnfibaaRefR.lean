/-
  The contracts of the document's own Read and Loose, for every device of its own that reads outside given blocks.
-/
import Derived.Test.YtpaahbohbnfibaaRefT
import Derived.Test.YtpaahbohbnfibaaLoose
namespace Go.Proofs.Ytpaahbohbnfibaa
open Go.RowKit Go.Rst Go.Dv
set_option maxRecDepth 100000 in
set_option maxHeartbeats 1000000 in
theorem refread_no {A : Nat → Prop} {w : World} {tv : Value} {s : Sim} (i : Int) (h : TR A w tv s) (hi : s.has i = false) :
    Calls Try.prog 34 #[tv, .int .i64 i] w fun e w' => e = .returned (.tuple #[.slice none 0 0, .int .i64 20]) ∧ Below w.heap.size w w' := by
  obtain ⟨vS, vL, lf, rfl, hS, hL, hlf⟩ := h
  obtain ⟨aS, cS, rfl, hc⟩ := hS.shape
  obtain ⟨aL, cL, rfl, _⟩ := hL.shape
  clear hS hL hlf
  by_cases h0 : i < 0
  · have h1 : decide (i < 0) = true := by simpa using h0
    clear hi
    go_enter Try.func34, Try.ntmps34
    go_wp2
    go_ret2
    exact ⟨rfl, (Below.refl _ _).alloc (Nat.le_refl _) _⟩
  · have h1 : decide (i < 0) = false := by simpa using h0
    have h2 : (s.firm.length : Int) ≤ i := by
      rcases Int.lt_or_le i s.firm.length with h | h
      · have := Sim.has_iff.2 ⟨show 0 ≤ i by omega, h⟩
        rw [hi] at this; cases this
      · exact h
    clear hi
    go_enter Try.func34, Try.ntmps34
    go_wp2
    go_ret2
    exact ⟨rfl, (Below.refl _ _).alloc (Nat.le_refl _) _⟩
def ReadR (A : Nat → Prop) (w : World) (l : List UInt8) (e : Ending) (w' : World) : Prop := ∃ u, e = .returned (.tuple #[u, .int .i64 0]) ∧ RA A w' u l ∧ Below w.heap.size w w'
theorem ReadR.mk {A : Nat → Prop} {w w' : World} {u : Value} {l l' : List UInt8} (h : RA A w u l) (hb : Below w.heap.size w w') (hl : l' = l) : ReadR A w l' (.returned (.tuple #[u, .int .i64 0])) w' :=
  ⟨u, rfl, by rw [hl]; exact h.fr (D := fun _ => False) (Fr.of_below hb) (fun _ h => h.elim) (fun _ h => .inl h), hb⟩
set_option maxRecDepth 100000 in
set_option maxHeartbeats 1000000 in
theorem refread_any {A : Nat → Prop} {w : World} {tv : Value} {s : Sim} (k : Nat) (h : TR A w tv s) (hk : k < s.firm.length) (hLl : s.loose.length ≤ 100000) (hF : s.firm.length ≤ 4096) :
    Calls Try.prog 34 #[tv, .int .i64 (k : Int)] w (ReadR A w (s.read k)) := by
  obtain ⟨vS, vL, lf, rfl, hS, hL, hlf⟩ := h
  obtain ⟨aS, cS, rfl, hc⟩ := hS.shape
  obtain ⟨aL, cL, rfl, _⟩ := hL.shape
  obtain ⟨bS, uS, hAS, hbS, _, hcS, hRS⟩ := hS.at_ hk
  subst hAS
  have HRS := Lib.hid hRS
  have HL := Lib.hid hL
  have hE : ∀ q, q = upTo s.loose k s.loose.length → (q = 0 → s.read k = s.firm.getD k []) ∧ (0 < q → s.read k = (wat s.loose (q - 1)).2) := fun q hq => by
    subst hq
    unfold Sim.read
    refine ⟨fun h0 => by rw [if_pos h0], fun h0 => by rw [if_neg (by omega)]⟩
  have HE := Lib.hid hE
  have hk0 : (0 : Int) ≤ (k : Int) := by omega
  have hk1 : (k : Int) < (s.firm.length : Int) := by omega
  have hcS2 : ∀ o, (w.alloc o).cell? ⟨bS, k, none⟩ = some uS := fun o => (World.cell?_of_block (a := ⟨bS, k, none⟩) (Below.heap_alloc w o bS hbS)).trans hcS
  obtain ⟨aU, cU, huU, _, _, _⟩ := hRS.1
  obtain ⟨nU, hnU⟩ : ∃ nU, nU = (s.firm.getD k []).length := ⟨_, rfl⟩
  rw [← hnU] at huU
  have HNU := Lib.hid hnU
  subst huU
  clear hS hL hlf hRS hE hcS hnU
  go_enter Try.func34, Try.ntmps34
  go_wp2
  have hcc := hcS2 (Obj.cells #[Value.slice (some ⟨bS, 0, none⟩) s.firm.length cS, Value.slice aL s.loose.length cL, Value.int IntKind.i64 ↑s.nw, Value.int IntKind.i64 ↑s.nf, Value.bool s.fuse.isSome, Value.int IntKind.i64 lf] 38)
  clear hcS2
  have HCC := Lib.hid hcc
  clear hcc
  go_loop [6] (fun i => ∃ j : Nat, j ≤ s.loose.length ∧ i = .int .i64 ((j : Int) - 1) ∧ upTo s.loose k s.loose.length = upTo s.loose k j) (fun i => (intOf i + 1).toNat)
  case atStart => exact ⟨s.loose.length, Nat.le_refl _, rfl, rfl⟩
  case round =>
    obtain ⟨j, hj, rfl, hu⟩ := hrel
    cases j with
    | zero =>
      have e0 : (((0 : Nat) : Int) - 1) = -1 := rfl
      rw [e0]
      have HU := Lib.hid hu
      have hcc := HCC.out
      clear hu
      go_wp2
      go_ret2
      refine ReadR.mk HRS.out ((Below.refl _ _).alloc (Nat.le_refl _) _) ?_
      exact (HE.out 0 (by rw [HU.out]; rfl)).1 rfl
    | succ j =>
      have e0 : (((j + 1 : Nat) : Int) - 1) = (j : Int) := by omega
      rw [e0]
      have hj' : j < s.loose.length := by omega
      obtain ⟨bL, uL, hAL, hbL, _, hc1, hc2, hRL⟩ := HL.out.at_ hj'
      obtain ⟨x, hx⟩ : ∃ x, x = wat s.loose j := ⟨_, rfl⟩
      rw [← hx] at hc1 hRL
      subst hAL
      have hc1' : (w.alloc (Obj.cells #[Value.slice (some ⟨bS, 0, none⟩) s.firm.length cS, Value.slice (some ⟨bL, 0, none⟩) s.loose.length cL, Value.int IntKind.i64 ↑s.nw, Value.int IntKind.i64 ↑s.nf, Value.bool s.fuse.isSome, Value.int IntKind.i64 lf] 38)).cell? ⟨bL, j * 2, none⟩ = some (.int .i64 (x.1 : Int)) := (World.cell?_of_block (a := ⟨bL, j * 2, none⟩) (Below.heap_alloc w _ bL hbL)).trans hc1
      have hc2' : (w.alloc (Obj.cells #[Value.slice (some ⟨bS, 0, none⟩) s.firm.length cS, Value.slice (some ⟨bL, 0, none⟩) s.loose.length cL, Value.int IntKind.i64 ↑s.nw, Value.int IntKind.i64 ↑s.nf, Value.bool s.fuse.isSome, Value.int IntKind.i64 lf] 38)).cell? ⟨bL, j * 2 + 1, none⟩ = some uL := (World.cell?_of_block (a := ⟨bL, j * 2 + 1, none⟩) (Below.heap_alloc w _ bL hbL)).trans hc2
      obtain ⟨aV, cV, huV, _, _, _⟩ := id hRL.1
      obtain ⟨nV, hnV⟩ : ∃ nV, nV = x.2.length := ⟨_, rfl⟩
      rw [← hnV] at huV
      subst huV
      have HRL := Lib.hid hRL
      have HX := Lib.hid hx
      have HU := Lib.hid hu
      have hji : (j : Int) < (s.loose.length : Int) := by omega
      by_cases hxk : x.1 = k
      · have hd : ((x.1 : Int) == (k : Int)) = true := by rw [hxk]; simp
        have HXK := Lib.hid hxk
        clear hx hu hc1 hc2 hRL hxk hnV
        go_wp2
        go_ret2
        refine ReadR.mk HRL.out ((Below.refl _ _).alloc (Nat.le_refl _) _) ?_
        have e := (HE.out (j + 1) (by rw [HU.out]; unfold upTo; rw [if_pos (by rw [← HX.out]; exact HXK.out)])).2 (by omega)
        rw [e, HX.out]; rfl
      · have hd : ((x.1 : Int) == (k : Int)) = false := by simp; omega
        have HXK := Lib.hid hxk
        clear hx hu hc1 hc2 hRL hxk hnV
        go_wp2
        go_round
        case rel => exact ⟨j, by omega, rfl, by rw [HU.out]; conv => { lhs; unfold upTo }; rw [if_neg (by rw [← HX.out]; exact HXK.out)]⟩
        case measure => simp [intOf]
/-- The first k writes' sectors as cells. -/
def takeI (L : List Wr) (k : Nat) : List Value := ((L.take k).map (·.1)).map iv
theorem takeI_all (L : List Wr) : takeI L L.length = (L.map (·.1)).map iv := by unfold takeI; rw [List.take_length]
set_option maxRecDepth 100000 in
set_option maxHeartbeats 1000000 in
theorem refloose_any {A : Nat → Prop} {w : World} {tv : Value} {s : Sim} (h : TR A w tv s) (hLl : s.loose.length ≤ 100000) :
    Calls Try.prog 35 #[tv] w fun e w' => ∃ u, e = .returned u ∧ IS w' u (s.loose.map (·.1)) ∧ Below w.heap.size w w' := by
  obtain ⟨vS, vL, lf, rfl, hS, hL, hlf⟩ := h
  obtain ⟨aS, cS, rfl, hc⟩ := hS.shape
  obtain ⟨aL, cL, rfl, _⟩ := hL.shape
  have HL := Lib.hid hL
  clear hS hL hlf
  go_enter Try.func35, Try.ntmps35
  go_wp2
  obtain ⟨W1, hW1⟩ : ∃ W1, W1 = w.alloc (Obj.cells #[Value.slice aS s.firm.length cS, Value.slice aL s.loose.length cL, Value.int IntKind.i64 ↑s.nw, Value.int IntKind.i64 ↑s.nf, Value.bool s.fuse.isSome, Value.int IntKind.i64 lf] 38) := ⟨_, rfl⟩
  rw [← hW1]
  obtain ⟨g1, hg1⟩ : ∃ g1, g1 = w.heap.size := ⟨_, rfl⟩
  rw [← hg1]
  have hb1 : Blk W1 g1 38 #[Value.slice aS s.firm.length cS, Value.slice aL s.loose.length cL, Value.int IntKind.i64 ↑s.nw, Value.int IntKind.i64 ↑s.nf, Value.bool s.fuse.isSome, Value.int IntKind.i64 lf] := by rw [hW1, hg1]; exact heap_alloc_new w _
  have hbw : Below w.heap.size w W1 := by rw [hW1]; exact (Below.refl _ _).alloc (Nat.le_refl _) _
  have HB1 := Lib.hid hb1
  have HBW := Lib.hid hbw
  have HL1 := Lib.hid (HL.out.below hbw)
  clear hW1 hg1 hb1 hbw
  go_loopw [3, 4] (fun v i wr => ∃ k : Nat, k ≤ s.loose.length ∧ i = .int .i64 k ∧ wr.ownsRow W1.heap.size 3 1 v k (takeI s.loose k) ∧ Below W1.heap.size W1 wr) (fun _ i _ => s.loose.length - (intOf i).toNat)
  case atStart => exact ⟨0, Nat.zero_le _, rfl, World.ownsRow_nil _ _ _ _, Below.refl _ _⟩
  case round =>
    obtain ⟨k, hk, rfl, hown, hbel⟩ := hrel
    obtain ⟨A3, c3, rfl, hc3⟩ := own_shape hown
    have hc1 := (HB1.out.below hbel HB1.out.lt).cell 1
    simp at hc1
    by_cases hlt : k < s.loose.length
    · obtain ⟨bL, uL, hAL, hbL, _, hcx, _, _⟩ := (HL1.out.below hbel).at_ hlt
      obtain ⟨x, hx⟩ : ∃ x, x = wat s.loose k := ⟨_, rfl⟩
      rw [← hx] at hcx
      have htk : takeI s.loose (k + 1) = takeI s.loose k ++ [iv x.1] := by
        unfold takeI
        rw [List.take_succ_eq_append_getElem hlt, List.map_append, List.map_append, hx, wat_in hlt]
        rfl
      subst hAL
      unfold iv at hcx
      have HTK := Lib.hid htk
      have HOw := Lib.hid hown
      have HBl := Lib.hid hbel
      clear hx htk hown hbel
      go_wp2_with (at_builtin; refine wpList_own rfl (.tmp 12) (.tmp 19) 52 52 rfl W1.heap.size 3 (.int .i64 0) 1 8 Try.underlying52 info3 rfl rfl (HOw.out.alloc _) rfl (src_one wr Try.underlying52 3 _ rfl) (HBl.out.alloc HBl.out.size _) (Nat.le_refl _) ?_ ?_ ?_ ?_)
      · unfold maxLen; omega
      · omega
      · have := HBl.out.size; simp; omega
      intro v5 w5 hown5 hbel5 _
      have HO5 := Lib.hid hown5
      have HB5 := Lib.hid hbel5
      clear hown5 hbel5
      go_wp2
      go_roundw
      case rel =>
        refine ⟨k + 1, by omega, by go_num, ?_, HB5.out⟩
        rw [HTK.out]
        exact HO5.out
      case measure => simp [intOf]; omega
    · obtain rfl : k = s.loose.length := by omega
      rw [takeI_all] at hown
      have HOw := Lib.hid hown
      have HBl := Lib.hid hbel
      clear hown hbel
      go_wp2
      go_ret
      refine ⟨_, rfl, ?_, HBW.out.trans (HBl.out.mono HBW.out.size)⟩
      rcases HOw.out.2 with ⟨he, h0⟩ | ⟨g, cap, cur, he, _⟩
      · injection he with he1 he2 he3
        subst he1
        have hnil : s.loose = [] := List.eq_nil_of_length_eq_zero h0
        exact ⟨none, c3, by simp, .inl (by rw [hnil]; rfl)⟩
      · injection he with he1 _ he3
        subst he1
        exact IS.own HOw.out (by simp)
end Go.Proofs.Ytpaahbohbnfibaa
