/-
  How the document's own device reads, outside given blocks; and the contracts of its Burn and Fuse. No condition beyond those that each theorem states.
-/
import Derived.Test.YtpaahbohbnfibaaNew
import Derived.Deep.AppendSrc
namespace Go.Proofs.Ytpaahbohbnfibaa
open Go.RowKit Go.Rst Go.Dv
section
variable {A A' D : Nat → Prop} {w w' : World} {u v : Value} {l : List UInt8}
theorem RB.lt_ {k : Nat} (h : RB w u l) (hl : l ≠ []) (hk : u.ownBlock = some k) : k < w.heap.size := by
  obtain ⟨a, c, rfl, _, _, h3⟩ := h
  rcases h3 with h3 | ⟨b, off, rfl, hb, _⟩
  · exact absurd h3 hl
  · have : b = k := by simpa [Value.ownBlock] using hk
    omega
/-- Bytes outside A. -/
def RA (A : Nat → Prop) (w : World) (u : Value) (l : List UInt8) : Prop := RB w u l ∧ (l ≠ [] → ∀ k, u.ownBlock = some k → ¬ A k)
theorem RA.fr (h : RA A w u l) (hf : Fr D w w') (hD : ∀ k, D k → A k) (hA : ∀ k, A' k → A k ∨ w.heap.size ≤ k) : RA A' w' u l :=
  ⟨RB.fr h.1 hf (fun hl k hk hd => h.2 hl k hk (hD k hd)), fun hl k hk ha => by
    rcases hA k ha with h1 | h1
    · exact h.2 hl k hk h1
    · have := RB.lt_ h.1 hl hk; omega⟩
theorem RA.one (h : RA A w u l) : u.oneCell' = true := by
  obtain ⟨⟨a, c, rfl, _⟩, _⟩ := h
  rfl
/-- A row outside A that holds these cells. -/
def Row (A : Nat → Prop) (w : World) (v : Value) (n : Nat) (xs : List Value) : Prop :=
  ∃ a c, v = .slice a n c ∧ n ≤ c ∧ c ≤ maxLen ∧ (xs = [] ∨ ∃ b, a = some ⟨b, 0, none⟩ ∧ b < w.heap.size ∧ ¬ A b ∧ ∀ j (h : j < xs.length), w.cell? ⟨b, j, none⟩ = some xs[j])
theorem Row.fr {n : Nat} {xs : List Value} (h : Row A w v n xs) (hf : Fr D w w') (hD : ∀ k, D k → A k) (hA : ∀ k, A' k → A k ∨ w.heap.size ≤ k) : Row A' w' v n xs := by
  obtain ⟨a, c, rfl, h1, h2, h3⟩ := h
  refine ⟨a, c, rfl, h1, h2, ?_⟩
  rcases h3 with h3 | ⟨b, rfl, hb, hn, hc⟩
  · exact .inl h3
  · exact .inr ⟨b, rfl, Nat.lt_of_lt_of_le hb hf.size, fun ha => by rcases hA b ha with h4 | h4; exact hn h4; omega, fun j hj => (World.cell?_of_block (a := ⟨b, j, none⟩) (hf.block b hb (fun hd => hn (hD b hd)))).trans (hc j hj)⟩
theorem Row.own {base : Nat} {e : TypeId} {size n : Nat} {xs : List Value} (h : w.ownsRow base e size v n xs) (hA : ∀ k, base ≤ k → k < w.heap.size → ¬ A k) : Row A w v n xs := by
  rcases h.2 with ⟨rfl, h0⟩ | ⟨g, cap, cur, rfl, hb, hg, hnc, hcm, _⟩
  · subst h0
    have hl := h.1
    exact ⟨none, 0, rfl, Nat.le_refl _, Nat.zero_le _, .inl (List.eq_nil_of_length_eq_zero (by simpa using hl))⟩
  · have hlt := (h.lt g rfl).2
    refine ⟨_, cap, rfl, hnc, hcm, .inr ⟨g, rfl, hlt, hA g hb hlt, fun j hj => ?_⟩⟩
    have := h.cells (g := g) rfl j xs[j] (List.getElem?_eq_getElem hj)
    rw [Addr.add_lit] at this
    simpa using this
theorem Row.src {n size : Nat} {xs : List Value} (h : Row A w v n xs) (hl : xs.length = n * size) (h0 : 0 < size) {tx e' : TypeId} (hk : Try.prog.underlying tx = some (.slice e')) (h1 : ∀ x ∈ xs, x.oneCell' = true) : Src Try.prog size tx v n xs w := by
  obtain ⟨a, c, rfl, _, _, h3⟩ := h
  rcases h3 with h3 | ⟨b, rfl, hb, hn, hc⟩
  · subst h3
    have hn0 : n = 0 := by
      rcases Nat.eq_zero_or_pos n with h | h
      · exact h
      · have := Nat.mul_pos h h0; simp at hl; omega
    subst hn0
    cases a with
    | none => exact Src.ofNil _ hk c
    | some p => exact Src.ofSlice _ hk p 0 c [] (by simp) (fun j u hj => by simp at hj) (fun x hx => by cases hx)
  · refine Src.ofSlice _ hk ⟨b, 0, none⟩ n c xs hl (fun j u hj => ?_) h1
    obtain ⟨hj', e⟩ := List.getElem?_eq_some_iff.1 hj
    rw [Addr.add_lit, Nat.zero_add, hc j hj', e]
/-- Rows of bytes outside A. -/
def SR (A : Nat → Prop) (w : World) (v : Value) (F : List (List UInt8)) : Prop :=
  ∃ qs : List (List UInt8 × Value), qs.map (·.1) = F ∧ Row A w v F.length (qs.map (·.2)) ∧ ∀ q ∈ qs, RA A w q.2 q.1
/-- The cells of writes. -/
def pcs (ps : List (Wr × Value)) : List Value := (ps.map fun p => [iv p.1.1, p.2]).flatten
theorem pcs_length (ps : List (Wr × Value)) : (pcs ps).length = ps.length * 2 := by
  have := flat_length (m := 2) (L := ps.map fun p => [iv p.1.1, p.2]) (fun x hx => by obtain ⟨p, _, rfl⟩ := List.mem_map.1 hx; rfl)
  rw [pcs, this]; simp
theorem pcs_get (ps : List (Wr × Value)) {j : Nat} (h : j < ps.length) : (pcs ps)[j * 2]? = some (iv ps[j].1.1) ∧ (pcs ps)[j * 2 + 1]? = some ps[j].2 := by
  have hall : ∀ x ∈ ps.map (fun p => [iv p.1.1, p.2]), x.length = 2 := fun x hx => by obtain ⟨p, _, rfl⟩ := List.mem_map.1 hx; rfl
  have h0 := flat_get hall (i := j) (j := 0) (by simpa using h) (by decide)
  have h1 := flat_get hall (i := j) (j := 1) (by simpa using h) (by decide)
  rw [Nat.add_zero] at h0
  exact ⟨by rw [pcs, h0]; simp, by rw [pcs, h1]; simp⟩
theorem pcs_append (ps qs : List (Wr × Value)) : pcs (ps ++ qs) = pcs ps ++ pcs qs := by simp [pcs]
/-- Writes outside A. -/
def LR (A : Nat → Prop) (w : World) (v : Value) (L : List Wr) : Prop :=
  ∃ ps : List (Wr × Value), ps.map (·.1) = L ∧ Row A w v L.length (pcs ps) ∧ ∀ p ∈ ps, RA A w p.2 p.1.2
theorem pcs_one {ps : List (Wr × Value)} (h : ∀ p ∈ ps, RA A w p.2 p.1.2) : ∀ x ∈ pcs ps, x.oneCell' = true := by
  intro x hx
  obtain ⟨y, hy, hx⟩ := List.mem_flatten.1 hx
  obtain ⟨p, hp, rfl⟩ := List.mem_map.1 hy
  rcases List.mem_cons.1 hx with rfl | hx
  · rfl
  · simp at hx; subst hx; exact (h p hp).one
theorem SR.fr {F : List (List UInt8)} (h : SR A w v F) (hf : Fr D w w') (hD : ∀ k, D k → A k) (hA : ∀ k, A' k → A k ∨ w.heap.size ≤ k) : SR A' w' v F := by
  obtain ⟨qs, h1, h2, h3⟩ := h
  exact ⟨qs, h1, h2.fr hf hD hA, fun q hq => (h3 q hq).fr hf hD hA⟩
theorem LR.fr {L : List Wr} (h : LR A w v L) (hf : Fr D w w') (hD : ∀ k, D k → A k) (hA : ∀ k, A' k → A k ∨ w.heap.size ≤ k) : LR A' w' v L := by
  obtain ⟨qs, h1, h2, h3⟩ := h
  exact ⟨qs, h1, h2.fr hf hD hA, fun q hq => (h3 q hq).fr hf hD hA⟩
theorem SR.shape {F : List (List UInt8)} (h : SR A w v F) : ∃ a c, v = .slice a F.length c ∧ F.length ≤ c := by
  obtain ⟨qs, h1, ⟨a, c, h2, h3, _⟩, _⟩ := h
  exact ⟨a, c, h2, h3⟩
theorem LR.shape {L : List Wr} (h : LR A w v L) : ∃ a c, v = .slice a L.length c ∧ L.length ≤ c := by
  obtain ⟨qs, h1, ⟨a, c, h2, h3, _⟩, _⟩ := h
  exact ⟨a, c, h2, h3⟩
/-- One row of bytes of several. -/
theorem SR.at_ {F : List (List UInt8)} {a : Option Addr} {c i : Nat} (h : SR A w (.slice a F.length c) F) (hi : i < F.length) : ∃ b u, a = some ⟨b, 0, none⟩ ∧ b < w.heap.size ∧ ¬ A b ∧ w.cell? ⟨b, i, none⟩ = some u ∧ RA A w u (F.getD i []) := by
  obtain ⟨qs, rfl, ⟨a', c', he, _, _, h2⟩, h3⟩ := h
  injection he with he _ _
  subst he
  have hq : i < qs.length := by simpa using hi
  rcases h2 with h2 | ⟨b, rfl, hb, hn, hc⟩
  · rw [List.map_eq_nil_iff] at h2; subst h2; simp at hq
  · refine ⟨b, qs[i].2, rfl, hb, hn, by have := hc i (by simpa using hq); simpa using this, ?_⟩
    have := h3 qs[i] (List.getElem_mem hq)
    simpa [List.getD_eq_getElem?_getD, List.getElem?_map, List.getElem?_eq_getElem hq] using this
theorem LR.at_ {L : List Wr} {a : Option Addr} {c i : Nat} (h : LR A w (.slice a L.length c) L) (hi : i < L.length) : ∃ b u, a = some ⟨b, 0, none⟩ ∧ b < w.heap.size ∧ ¬ A b ∧ w.cell? ⟨b, i * 2, none⟩ = some (iv (wat L i).1) ∧ w.cell? ⟨b, i * 2 + 1, none⟩ = some u ∧ RA A w u (wat L i).2 := by
  obtain ⟨ps, rfl, ⟨a', c', he, _, _, h2⟩, h3⟩ := h
  injection he with he _ _
  subst he
  have hp : i < ps.length := by simpa using hi
  have hw : wat (ps.map (·.1)) i = ps[i].1 := by rw [wat_in hi]; simp
  rw [hw]
  have hl := pcs_length ps
  rcases h2 with h2 | ⟨b, rfl, hb, hn, hc⟩
  · rw [h2] at hl; have h9 : (0 : Nat) = ps.length * 2 := hl; omega
  · have hg := pcs_get ps hp
    refine ⟨b, ps[i].2, rfl, hb, hn, ?_, ?_, h3 ps[i] (List.getElem_mem hp)⟩
    · rw [hc (i * 2) (by rw [hl]; omega), ← hg.1, List.getElem?_eq_getElem]
    · rw [hc (i * 2 + 1) (by rw [hl]; omega), ← hg.2, List.getElem?_eq_getElem]
/-- The document's own device outside A. -/
def TR (A : Nat → Prop) (w : World) (tv : Value) (s : Sim) : Prop :=
  ∃ (vS vL : Value) (lf : Int), tv = .agg #[vS, vL, .int .i64 (s.nw : Int), .int .i64 (s.nf : Int), .bool s.fuse.isSome, .int .i64 lf] ∧ SR A w vS s.firm ∧ LR A w vL s.loose ∧ ∀ k, s.fuse = some k → lf = (k : Int)
theorem TR.fr {s : Sim} (h : TR A w v s) (hf : Fr D w w') (hD : ∀ k, D k → A k) (hA : ∀ k, A' k → A k ∨ w.heap.size ≤ k) : TR A' w' v s := by
  obtain ⟨vS, vL, lf, h1, h2, h3, h4⟩ := h
  exact ⟨vS, vL, lf, h1, h2.fr hf hD hA, h3.fr hf hD hA, h4⟩
theorem TR.below {s : Sim} (h : TR A w v s) (hb : Below w.heap.size w w') : TR A w' v s := h.fr (D := fun _ => False) (Fr.of_below hb) (fun _ h => h.elim) (fun _ h => .inl h)
theorem SR.below {F : List (List UInt8)} (h : SR A w v F) (hb : Below w.heap.size w w') : SR A w' v F := h.fr (D := fun _ => False) (Fr.of_below hb) (fun _ h => h.elim) (fun _ h => .inl h)
theorem LR.below {L : List Wr} (h : LR A w v L) (hb : Below w.heap.size w w') : LR A w' v L := h.fr (D := fun _ => False) (Fr.of_below hb) (fun _ h => h.elim) (fun _ h => .inl h)
/-- What a call hands back that makes another one of it. -/
def Made (A : Nat → Prop) (w : World) (s : Sim) (e : Ending) (w' : World) : Prop := ∃ tv, e = .returned tv ∧ TR A w' tv s ∧ Below w.heap.size w w'
/-- .. and something beside. -/
def Made2 (A : Nat → Prop) (w : World) (s : Sim) (r : Value) (e : Ending) (w' : World) : Prop := ∃ tv, e = .returned (.tuple #[tv, r]) ∧ TR A w' tv s ∧ Below w.heap.size w w'
end
theorem Made2.mk {A : Nat → Prop} {w w' : World} {s : Sim} {vS vL r : Value} {lf : Int} {f : Bool} (hS : SR A w vS s.firm) (hL : LR A w vL s.loose) (hf : s.fuse.isSome = f) (hlf : ∀ k, s.fuse = some k → lf = (k : Int)) (hb : Below w.heap.size w w') :
    Made2 A w s r (.returned (.tuple #[.agg #[vS, vL, .int .i64 (s.nw : Int), .int .i64 (s.nf : Int), .bool f, .int .i64 lf], r])) w' :=
  ⟨_, rfl, ⟨vS, vL, lf, by rw [hf], hS.below hb, hL.below hb, hlf⟩, hb⟩
theorem Made.mk {A : Nat → Prop} {w w' : World} {s : Sim} {vS vL : Value} {lf : Int} {f : Bool} (hS : SR A w vS s.firm) (hL : LR A w vL s.loose) (hf : s.fuse.isSome = f) (hlf : ∀ k, s.fuse = some k → lf = (k : Int)) (hb : Below w.heap.size w w') :
    Made A w s (.returned (.agg #[vS, vL, .int .i64 (s.nw : Int), .int .i64 (s.nf : Int), .bool f, .int .i64 lf])) w' :=
  ⟨_, rfl, ⟨vS, vL, lf, by rw [hf], hS.below hb, hL.below hb, hlf⟩, hb⟩
theorem below2 (w : World) (a b : Obj) : Below w.heap.size w ((w.alloc a).alloc b) := ((Below.refl _ _).alloc (Nat.le_refl _) a).alloc (by simp) b
set_option maxRecDepth 100000 in
set_option maxHeartbeats 1000000 in
theorem burn_any {A : Nat → Prop} {w : World} {tv : Value} {s : Sim} (h : TR A w tv s) (hu : ∀ k, s.fuse = some k → k ≤ 1000) :
    Calls Try.prog 39 #[tv] w (Made2 A w (if s.goes then s.burnt else s) (.bool s.goes)) := by
  obtain ⟨vS, vL, lf, rfl, hS, hL, hlf⟩ := h
  obtain ⟨aS, cS, rfl, _⟩ := hS.shape
  obtain ⟨aL, cL, rfl, _⟩ := hL.shape
  have HS := Lib.hid hS
  have HL := Lib.hid hL
  clear hS hL
  cases hf : s.fuse with
  | none =>
    have e : s.goes = true := by simp [Sim.goes, hf]
    have e2 : s.burnt = s := by cases s; simp [Sim.burnt] at *; exact hf.symm ▸ rfl
    rw [e, e2]
    have HF := Lib.hid hf
    clear e e2 hlf hf hu
    go_enter Try.func39, Try.ntmps39
    go_wp2
    have HB := Lib.hid (show s.fuse.isSome = false by rw [HF.out]; rfl)
    exact bodyPost_ret (v := .tuple #[.agg #[.slice aS s.firm.length cS, .slice aL s.loose.length cL, .int .i64 (s.nw : Int), .int .i64 (s.nf : Int), .bool false, .int .i64 lf], .bool true]) (by simp [results, Try.results39, go_sem]) rfl
      ⟨_, rfl, ⟨_, _, lf, by rw [HB.out], HS.out.below (below2 w _ _), HL.out.below (below2 w _ _), fun k hk => by rw [HF.out] at hk; cases hk⟩, below2 w _ _⟩
  | some k =>
    have hlf2 := hlf k hf
    have hk9 := hu k hf
    subst hlf2
    have HF := Lib.hid hf
    have HB := Lib.hid (show s.fuse.isSome = true by rw [hf]; rfl)
    cases k with
    | zero =>
      have e : s.goes = false := by simp [Sim.goes, hf]
      rw [e]
      clear e hlf hf hu
      go_enter Try.func39, Try.ntmps39
      go_wp2
      exact bodyPost_ret (v := .tuple #[.agg #[.slice aS s.firm.length cS, .slice aL s.loose.length cL, .int .i64 (s.nw : Int), .int .i64 (s.nf : Int), .bool true, .int .i64 0], .bool false]) (by simp [results, Try.results39, go_sem]) rfl
        ⟨_, rfl, ⟨_, _, 0, by rw [HB.out], HS.out.below (below2 w _ _), HL.out.below (below2 w _ _), fun k hk => by rw [HF.out] at hk; injection hk with hk; omega⟩, below2 w _ _⟩
    | succ k =>
      have e : s.goes = true := by simp [Sim.goes, hf]
      rw [e]
      have hc : ((k + 1 : Nat) : Int) = (k : Int) + 1 := by omega
      rw [hc]
      have hz : ((k : Int) + 1 == 0) = false := by simp; omega
      have hk0 : (0 : Int) ≤ (k : Int) := by omega
      have hk1 : (k : Int) ≤ 1000 := by omega
      have HB2 := Lib.hid (show s.burnt.fuse.isSome = true by simp [Sim.burnt, hf])
      have HF2 := Lib.hid (show s.burnt.fuse = some k by simp [Sim.burnt, hf])
      clear e hlf hf hu hc hk9
      go_enter Try.func39, Try.ntmps39
      go_wp2
      refine bodyPost_ret (v := .tuple #[.agg #[.slice aS s.firm.length cS, .slice aL s.loose.length cL, .int .i64 (s.nw : Int), .int .i64 (s.nf : Int), .bool true, .int .i64 (k : Int)], .bool true]) (by simp [results, Try.results39, go_sem]) rfl ?_
      refine Made2.mk (s := s.burnt) (lf := (k : Int)) HS.out HL.out HB2.out (fun j hj => by rw [HF2.out] at hj; injection hj with hj; omega) ?_
      repeat (first | exact Below.refl _ _ | (refine Below.alloc ?_ (by first | (simp; done) | (simp; omega) | (simp [World.setCell]; done) | (simp [World.setCell]; omega)) _) | (refine Below.setCell ?_ (by first | (simp; done) | (simp; omega)) _))
set_option maxRecDepth 100000 in
set_option maxHeartbeats 1000000 in
theorem reffuse_any {A : Nat → Prop} {w : World} {tv : Value} {s : Sim} (n : Int) (h : TR A w tv s) :
    Calls Try.prog 32 #[tv, .int .i64 n] w (Made A w (s.setFuse n)) := by
  obtain ⟨vS, vL, lf, rfl, hS, hL, hlf⟩ := h
  obtain ⟨aS, cS, rfl, _⟩ := hS.shape
  obtain ⟨aL, cL, rfl, _⟩ := hL.shape
  have HS := Lib.hid hS
  have HL := Lib.hid hL
  clear hS hL
  cases hg : s.goes with
  | false =>
    have hf : s.fuse = some 0 := by simpa [Sim.goes] using hg
    have h0 : lf = 0 := hlf 0 hf
    subst h0
    have e : s.setFuse n = s := by simp [Sim.setFuse, hg]
    rw [e]
    have hb : s.fuse.isSome = true := by rw [hf]; rfl
    rw [hb]
    have HB := Lib.hid hb
    have HF := Lib.hid hf
    clear e hb hf hlf hg
    go_enter Try.func32, Try.ntmps32
    go_wp2
    exact bodyPost_ret (v := .agg #[.slice aS s.firm.length cS, .slice aL s.loose.length cL, .int .i64 (s.nw : Int), .int .i64 (s.nf : Int), .bool true, .int .i64 0]) (by simp [results, Try.results32, go_sem]) rfl
      (Made.mk HS.out HL.out HB.out (fun k hk => by rw [HF.out] at hk; injection hk with hk; omega) (below2 w _ _))
  | true =>
    have e : s.setFuse n = { s with fuse := if 0 ≤ n then some n.toNat else none } := by simp [Sim.setFuse, hg]
    rw [e]
    have hz : s.fuse.isSome = false ∨ (s.fuse.isSome = true ∧ (lf == 0) = false) := by
      cases hf : s.fuse with
      | none => exact .inl rfl
      | some k =>
        refine .inr ⟨rfl, ?_⟩
        have := hlf k hf
        cases k with
        | zero => simp [Sim.goes, hf] at hg
        | succ k => simp; omega
    clear e hg hlf
    have fin : ∀ (f : Bool) (x : Int), ((if 0 ≤ n then some n.toNat else none : Option Nat).isSome = f) → (∀ k, (if 0 ≤ n then some n.toNat else none : Option Nat) = some k → x = (k : Int)) → ∀ w', Below w.heap.size w w' → Made A w { s with fuse := if 0 ≤ n then some n.toNat else none } (.returned (.agg #[.slice aS s.firm.length cS, .slice aL s.loose.length cL, .int .i64 (s.nw : Int), .int .i64 (s.nf : Int), .bool f, .int .i64 x])) w' :=
      fun f x hf hx w' hb => Made.mk (s := { s with fuse := if 0 ≤ n then some n.toNat else none }) HS.out HL.out hf hx hb
    obtain ⟨S2, hS2⟩ : ∃ S2 : Sim, S2 = { s with fuse := if 0 ≤ n then some n.toNat else none } := ⟨_, rfl⟩
    rw [← hS2] at fin ⊢
    have FIN := Lib.hid fin
    clear fin hS2
    by_cases h0 : 0 ≤ n
    · have H0 := Lib.hid h0
      have h1 : decide (0 ≤ n) = true := by simpa using h0
      have h2 : ¬ n < 0 := by omega
      rcases hz with hz | ⟨hz, hz2⟩
      all_goals
        rw [hz]
        clear hz
        go_enter Try.func32, Try.ntmps32
        go_wp2
        refine bodyPost_ret (v := .agg #[.slice aS s.firm.length cS, .slice aL s.loose.length cL, .int .i64 (s.nw : Int), .int .i64 (s.nf : Int), .bool true, .int .i64 n]) (by simp [results, Try.results32, go_sem]) rfl ?_
        refine FIN.out true n (by rw [if_pos H0.out]; rfl) (fun k hk => by rw [if_pos H0.out] at hk; injection hk with hk; omega) _ ?_
        repeat (first | exact Below.refl _ _ | (refine Below.alloc ?_ (by first | (simp; done) | (simp; omega)) _) | (refine Below.setCell ?_ (by first | (simp; done) | (simp; omega)) _))
    · have H0 := Lib.hid h0
      have h1 : decide (0 ≤ n) = false := by simpa using h0
      have h2 : n < 0 := by omega
      rcases hz with hz | ⟨hz, hz2⟩
      all_goals
        rw [hz]
        clear hz
        go_enter Try.func32, Try.ntmps32
        go_wp2
        refine bodyPost_ret (v := .agg #[.slice aS s.firm.length cS, .slice aL s.loose.length cL, .int .i64 (s.nw : Int), .int .i64 (s.nf : Int), .bool false, .int .i64 0]) (by simp [results, Try.results32, go_sem]) rfl ?_
        refine FIN.out false 0 (by rw [if_neg (show ¬ 0 ≤ n by have := H0.out; omega)]; rfl) (fun k hk => by rw [if_neg (show ¬ 0 ≤ n by have := H0.out; omega)] at hk; cases hk) _ ?_
        repeat (first | exact Below.refl _ _ | (refine Below.alloc ?_ (by first | (simp; done) | (simp; omega)) _) | (refine Below.setCell ?_ (by first | (simp; done) | (simp; omega)) _))
end Go.Proofs.Ytpaahbohbnfibaa
