/-
  The contract of the device's Copy: another device of new blocks, of the same plain device.
-/
import Derived.Test.YtpaahbohbnfibaaClone
namespace Go.Proofs.Ytpaahbohbnfibaa
open Go.RowKit Go.Rst Go.Dv
theorem gen_setC {P : Program} {f : FuncId} {args : Array Value} {Q : Ending → World → Prop} {w : World} {p : Addr} {u : Value} (h : ∀ w', w' = w.setCell p u → Calls P f args w' Q) : Calls P f args (w.setCell p u) Q := h _ rfl
theorem fcs_one {F : List (List UInt8)} : ∀ x ∈ fcs F, x.oneCell' = true := by
  intro x hx
  obtain ⟨y, hy, hx⟩ := List.mem_flatten.1 hx
  obtain ⟨z, _, rfl⟩ := List.mem_map.1 hy
  exact bvs_one x hx
theorem wcs_one {L : List Wr} : ∀ x ∈ wcs L, x.oneCell' = true := by
  intro x hx
  obtain ⟨y, hy, hx⟩ := List.mem_flatten.1 hx
  obtain ⟨z, _, rfl⟩ := List.mem_map.1 hy
  exact wc_one z x hx
theorem ivs_one {N : List Nat} : ∀ x ∈ N.map iv, x.oneCell' = true := by
  intro x hx
  obtain ⟨z, _, rfl⟩ := List.mem_map.1 hx
  rfl
theorem own_zero {w : World} {B : Nat} {e : TypeId} {size n : Nat} {v : Value} {xs : List Value} (h : w.ownsRow B e size v n xs) : w.ownsRow 0 e size v n xs := by
  refine ⟨h.1, ?_⟩
  rcases h.2 with h0 | ⟨g, cap, cur, h1, _, h2⟩
  · exact .inl h0
  · exact .inr ⟨g, cap, cur, h1, Nat.zero_le _, h2⟩
/-- What clones the loose writes. -/
theorem clone_any {w : World} {b0 n cap : Nat} {a : Option Addr} {xs : List Value} (h : w.ownsRow b0 68 65 (.slice a n cap) n xs) (h1 : ∀ x ∈ xs, x.oneCell' = true) (hn : n ≤ 100000) :
    Calls Try.prog 37 #[.slice a n cap] w fun e w' => ∃ a' c', e = .returned (.slice a' n c') ∧ w'.ownsRow w.heap.size 68 65 (.slice a' n c') n xs ∧ Below w.heap.size w w' := by
  rcases h.2 with ⟨h2, h3⟩ | ⟨g, cap', cur, h2, _⟩
  · injection h2 with h4 h5 h6
    subst h4 h3 h6
    obtain rfl : xs = [] := List.eq_nil_of_length_eq_zero (by simpa using h.1)
    refine clone_nil.mono ?_
    rintro e w' ⟨rfl, rfl⟩
    exact ⟨none, 0, rfl, World.ownsRow_nil _ _ _ _, Below.refl _ _⟩
  · injection h2 with h4 h5 h6
    subst h4
    refine (clone_37 h h1 hn).mono ?_
    rintro e w' ⟨g', c', rfl, h7, h8⟩
    exact ⟨_, c', rfl, h7, h8⟩
set_option maxRecDepth 100000 in
set_option maxHeartbeats 1000000 in
theorem copy_any {D : Nat → Prop} {w : World} {v : Value} {s : Sim} (h : Dev D w v s) (hw : s.nw ≤ 100000) :
    Calls Try.prog 21 #[v] w fun e w' => ∃ g, e = .returned (.pointer (some ⟨g, 0, none⟩)) ∧ Own w.heap.size w' (.pointer (some ⟨g, 0, none⟩)) s ∧ Below w.heap.size w w' := by
  obtain ⟨y, rfl, hr, hok, hlf⟩ := h
  have HR := Lib.hid hr
  have HOK := Lib.hid hok
  have HLF := Lib.hid hlf
  have HLL := Lib.hid (show s.loose.length ≤ 100000 from Nat.le_trans hok.w hw)
  have HFF := Lib.hid (show s.firm.length ≤ 100000 from Nat.le_trans hok.n (by decide))
  have hyl := hr.lt _ hr.dg
  have c0 := hr.c0
  have c1 := hr.c1
  have c2 := hr.c2
  have c3 := hr.c3
  have c4 := hr.c4
  have c5 := hr.c5
  have hnl := newL_length s.firm.length s.loose
  rw [hnl] at c2
  clear hr hok hlf hw
  obtain ⟨f0, hf0⟩ : ∃ f0, f0 = s.fuse.isSome := ⟨_, rfl⟩
  rw [← hf0] at c3
  obtain ⟨g3, hg3⟩ : ∃ g3, g3 = w.heap.size := ⟨_, rfl⟩
  have hne : y.g ≠ g3 := by omega
  have HF0 := Lib.hid hf0
  have HG3 := Lib.hid hg3
  have HNL := Lib.hid hnl
  clear hf0 hg3 hnl
  have hst : ∀ w', (store ⟨w.heap.size, 5, none⟩ (.complex .f64 (fb s.nw) (fb s.nf))).run Try.prog w' = stored Try.prog w' ⟨w.heap.size, 5, none⟩ (.complex .f64 (fb s.nw) (fb s.nf)) .plain := fun w' => run_store Try.prog w' _ _ _ rfl
  have hne2 : y.g ≠ w.heap.size := Nat.ne_of_lt hyl
  go_enter Try.func21, Try.ntmps21
  go_wp2_with fail
  obtain ⟨W1, hW1⟩ : ∃ W1, W1 = w.alloc (Obj.cells #[Value.slice (some ⟨y.gF, 0, none⟩) s.firm.length y.cF, Value.slice y.A s.loose.length y.c, Value.slice (some ⟨y.gN, 0, none⟩) s.firm.length y.cN, Value.bool f0, Value.int IntKind.i64 y.lf, Value.complex FloatKind.f64 (fb s.nw) (fb s.nf)] 64) := ⟨_, rfl⟩
  rw [← hW1]
  have hb1 : Below w.heap.size w W1 := by rw [hW1]; exact (Below.refl _ _).alloc (Nat.le_refl _) _
  have HC1 := Lib.hid (show Blk W1 w.heap.size 64 #[Value.slice (some ⟨y.gF, 0, none⟩) s.firm.length y.cF, Value.slice y.A s.loose.length y.c, Value.slice (some ⟨y.gN, 0, none⟩) s.firm.length y.cN, Value.bool f0, Value.int IntKind.i64 y.lf, Value.complex FloatKind.f64 (fb s.nw) (fb s.nf)] by rw [hW1]; exact heap_alloc_new w _)
  have HB1 := Lib.hid hb1
  have HR1 := Lib.hid (HR.out.below hb1)
  clear hb1 hW1 c0 c1 c2 c3 c4 c5
  go_at_call 36
  refine (clone_36 HR1.out.rf fcs_one HFF.out).mono ?_
  rintro e w2 ⟨gF, cF, rfl, hoF, hb2⟩
  have HB2 := Lib.hid (HB1.out.trans (hb2.mono HB1.out.size))
  have HR2 := Lib.hid (HR1.out.below hb2)
  have HC2 := Lib.hid (HC1.out.below hb2 HC1.out.lt)
  have HOF := Lib.hid hoF
  have d0 := HC2.out.cell 0
  have df := HC2.out.frozen
  have dl := HC2.out.lt
  have e1 := HR2.out.c1
  clear hb2 hoF
  go_wp2_with fail
  refine gen_setC ?_
  intro W3 hW3
  have hDl : ∀ k, D k → k < w.heap.size := HR.out.lt
  have HB3 := Lib.hid (show Below w.heap.size w W3 by rw [hW3]; exact HB2.out.setCell (p := ⟨w.heap.size, 0, none⟩) (Nat.le_refl _) _)
  have HR3 := Lib.hid (show Raw D W3 y _ _ _ _ _ _ by rw [hW3]; exact HR2.out.far (p := ⟨w.heap.size, 0, none⟩) (fun h => Nat.lt_irrefl _ (hDl _ h)) _)
  have HC3 := Lib.hid (show Blk W3 w.heap.size 64 _ by rw [hW3]; exact HC2.out.set_ 0 _)
  have HOF3 := Lib.hid (show W3.ownsRow W1.heap.size 66 64 (.slice (some ⟨gF, 0, none⟩) s.firm.length cF) s.firm.length (fcs s.firm) by rw [hW3]; exact ownsRow_setCell_below HOF.out (a := ⟨w.heap.size, 0, none⟩) HC1.out.lt _)
  have HS3 := Lib.hid (show W3.heap.size = w2.heap.size by rw [hW3]; simp [World.setCell])
  clear hW3 d0 df dl e1
  refine (clone_any HR3.out.rl wcs_one HLL.out).mono ?_
  rintro e w4 ⟨aL, cL, rfl, hoL, hb4⟩
  have HB4 := Lib.hid (HB3.out.trans (hb4.mono HB3.out.size))
  have HR4 := Lib.hid (HR3.out.below hb4)
  have HC4 := Lib.hid (HC3.out.below hb4 HC3.out.lt)
  have HOF4 := Lib.hid (own_below HOF3.out hb4)
  have HOL := Lib.hid hoL
  have HS4 := Lib.hid hb4.size
  have d0 := HC4.out.cell 1
  have df := HC4.out.frozen
  have dl := HC4.out.lt
  have e2 := HR4.out.c2
  rw [HNL.out] at e2
  clear hb4 hoL
  go_wp2_with fail
  refine gen_setC ?_
  intro W5 hW5
  have HB5 := Lib.hid (show Below w.heap.size w W5 by rw [hW5]; exact HB4.out.setCell (p := ⟨w.heap.size, 1, none⟩) (Nat.le_refl _) _)
  have hR5 : Raw D W5 y s.firm s.loose (newL s.firm.length s.loose) s.fuse.isSome s.nw s.nf := by rw [hW5]; exact HR4.out.far (p := ⟨w.heap.size, 1, none⟩) (fun h => Nat.lt_irrefl _ (hDl _ h)) _
  have HC5 := Lib.hid (show Blk W5 w.heap.size 64 _ by rw [hW5]; exact HC4.out.set_ 1 _)
  have HOF5 := Lib.hid (show W5.ownsRow W1.heap.size 66 64 (.slice (some ⟨gF, 0, none⟩) s.firm.length cF) s.firm.length (fcs s.firm) by rw [hW5]; exact ownsRow_setCell_below HOF4.out (a := ⟨w.heap.size, 1, none⟩) HC1.out.lt _)
  have HOL5 := Lib.hid (show W5.ownsRow W3.heap.size 68 65 (.slice aL s.loose.length cL) s.loose.length (wcs s.loose) by rw [hW5]; exact ownsRow_setCell_below HOL.out (a := ⟨w.heap.size, 1, none⟩) HC3.out.lt _)
  have HS5 := Lib.hid (show W5.heap.size = w4.heap.size by rw [hW5]; simp [World.setCell])
  have hrn := hR5.rn
  rw [HNL.out] at hrn
  clear hW5 d0 df dl e2 hR5
  refine (clone_38 hrn ivs_one HFF.out).mono ?_
  rintro e w6 ⟨gN, cN, rfl, hoN, hb6⟩
  have HB6 := Lib.hid (HB5.out.trans (hb6.mono HB5.out.size))
  have HC6 := Lib.hid (HC5.out.below hb6 HC5.out.lt)
  have HOF6 := Lib.hid (own_below HOF5.out hb6)
  have HOL6 := Lib.hid (own_below HOL5.out hb6)
  have HON := Lib.hid hoN
  have HS6 := Lib.hid hb6.size
  have d0 := HC6.out.cell 2
  have df := HC6.out.frozen
  have dl := HC6.out.lt
  clear hb6 hoN hrn
  go_wp2
  go_ret
  have l1 := HC1.out.lt
  have l2 := (HOF.out.lt gF rfl)
  have l3 := HS3.out
  have l4 := HS4.out
  have l5 := HS5.out
  have l6 := HS6.out
  have l7 := (HON.out.lt gN rfl)
  have l8 : ∀ p, aL = some p → W3.heap.size ≤ p.block ∧ p.block < w4.heap.size := fun p hp => by
    have := HOL.out.lt p.block (by rw [hp]; rfl)
    exact this
  have hsz : (w6.setCell ⟨w.heap.size, 2, none⟩ (.slice (some ⟨gN, 0, none⟩) s.firm.length cN)).heap.size = w6.heap.size := by simp [World.setCell]
  refine ⟨w.heap.size, rfl, ⟨fun k => w.heap.size ≤ k ∧ k < w6.heap.size, ⟨⟨w.heap.size, gF, gN, cF, cN, aL, cL, y.lf⟩, rfl, ?_, HOK.out, HLF.out⟩, fun k hk => hk.1, ?_⟩, HB6.out.setCell (p := ⟨w.heap.size, 2, none⟩) (Nat.le_refl _) _⟩
  · refine ⟨?_, ?_, ?_, ?_, ⟨Nat.le_refl _, by omega⟩, ⟨by show w.heap.size ≤ gF; omega, by show gF < w6.heap.size; omega⟩, ⟨by show w.heap.size ≤ gN; omega, l7.2⟩, fun p hp => ?_, fun k hk => ?_, ?_, ?_, ?_, fun p hp => ?_⟩
    · have hb := HC6.out.set_ 2 (.slice (some ⟨gN, 0, none⟩) s.firm.length cN)
      rw [HNL.out, ← HF0.out]
      exact hb
    · exact own_zero (ownsRow_setCell_below HOF6.out (a := ⟨w.heap.size, 2, none⟩) l1 _)
    · exact own_zero (ownsRow_setCell_below HOL6.out (a := ⟨w.heap.size, 2, none⟩) HC3.out.lt _)
    · rw [HNL.out]
      exact own_zero (ownsRow_setCell_below HON.out (a := ⟨w.heap.size, 2, none⟩) HC5.out.lt _)
    · have := l8 p hp
      exact ⟨by omega, by omega⟩
    · rw [hsz]
      exact hk.2
    · show w.heap.size ≠ gF; omega
    · show w.heap.size ≠ gN; omega
    · show gF ≠ gN; omega
    · have := l8 p hp
      exact ⟨by show p.block ≠ w.heap.size; omega, by show p.block ≠ gF; omega, by show p.block ≠ gN; omega⟩
  · rw [hsz]
    exact HB6.out.size
end Go.Proofs.Ytpaahbohbnfibaa
