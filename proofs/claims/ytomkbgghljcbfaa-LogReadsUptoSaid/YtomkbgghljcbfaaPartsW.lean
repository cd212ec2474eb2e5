/-
  What the program's Parts holds while it goes from piece to piece.
-/
import Derived.Test.YtomkbgghljcbfaaGRf
import Derived.Test.YtomkbgghljcbfaaChunk
import Derived.Test.YtomkbgghljcbfaaGPg
namespace Go.Proofs.Ytomkbgghljcbfaa
open Go.RowKit Go.Rst Go.Crc Go.Shelf
theorem step_own3 {P : Program} {w : World} {ops : Array Oper} {o : Oper} {a : Act} {K : Act → World → Prop} {Q : Exit → Act → World → Prop} {E : Prop} (hgd : o.guard = none) (s x : Operand) (t tx : TypeId)
    (ho : o.op = .call { callee := .builtin .append, args := #[s, x], argTypes := #[t, tx] })
    (base : Nat) (e : TypeId) (z : Value) (size bytes : Nat) (ht : P.underlying t = some (.slice e)) (hinfo : (P.info? e).map (fun i => (i.zero, i.size, i.bytes)) = some (some z, size, bytes))
    (hzs : z.cells.size = size)
    {v : Value} {n : Nat} {xs : List Value} (hs : a.eval s = v) (hown : w.ownsRow base e size v n xs)
    {xv : Value} {m : Nat} {news : List Value} (hx : a.eval x = xv) (hsrc : Src P size tx xv m news w)
    (h63 : n + m ≤ maxLen) (hbytes : (n + m) * bytes ≤ 140737488355328) (hbase : base ≤ w.heap.size)
    (h : ∀ v' w', w'.ownsRow base e size v' (n + m) (xs ++ news) → w.grownBy w' v.ownBlock → (v'.ownBlock = v.ownBlock ∨ v'.ownBlock = some w.heap.size) → K (a.put o.dst v') w') :
    if Region.wanted o (yielded ops a.tmps) = true then Oper.wp P o a w K Q else E := by
  have hw : Region.wanted o (yielded ops a.tmps) = true := by simp [Region.wanted, hgd]
  rw [if_pos hw]
  obtain ⟨i, hi, hz, hsz, hb⟩ := info_parts hinfo
  exact wp_append_src s x t tx ho base e i z size bytes ht hi hz hsz hb hzs hs hown hx hsrc h63 hbytes hbase fun v' w' h1 h2 h3 => h v' w' h1 h2 h3
/-- What is there all along. -/
structure PK (w : World) (ep n of : Nat) (bv : Value) (bl : List UInt8) (B : Nat) (X : World) : Prop where
  ow : X.ownsRow w.heap.size 5 1 bv bl.length (bvs bl)
  be : Boxed X w.heap.size 3 (.int .i64 ep)
  bn : Boxed X (w.heap.size + 1) 3 (.int .i64 n)
  bc : Boxed X B 3 (.int .i64 of)
  b1 : Boxed X (B + 1 + 1) 23 bv
  b2 : Boxed X (B + 1 + 1 + 1) 3 (.int .i64 49)
  bl : Below w.heap.size w X
/-- The sectors so far, in a box. -/
structure QS (w : World) (ep n of : Nat) (bv : Value) (bl : List UInt8) (B : Nat) (ss : List (List UInt8)) (sv : Value) (X : World) : Prop where
  bs : Boxed X (B + 1) 29 sv
  op : OP 5 23 X w.heap.size sv ss
  pk : PK w ep n of bv bl B X
  hB : w.heap.size ≤ B
  hne : ∀ g, sv.ownBlock = some g → g ≠ B + 1 + 1
section
variable {w : World} {ep n of : Nat} {bv : Value} {bl : List UInt8} {B : Nat} {ss : List (List UInt8)} {sv : Value} {X Y : World}
theorem PK.kept {p : Nat → TypeId → Prop} (h : PK w ep n of bv bl B X) (hk : KX p X Y) (h5 : ∀ g, p g 5) (h3 : ∀ g, p g 3) (h23 : p (B + 1 + 1) 23) (hb : Below w.heap.size w Y) : PK w ep n of bv bl B Y :=
  ⟨hk.own h.ow (fun _ _ => h5 _), hk.boxed (h3 _) h.be, hk.boxed (h3 _) h.bn, hk.boxed (h3 _) h.bc, hk.boxed h23 h.b1, hk.boxed (h3 _) h.b2, hb⟩
theorem PK.below (h : PK w ep n of bv bl B X) (hb : Below X.heap.size X Y) : PK w ep n of bv bl B Y := h.kept (KX.below (p := fun _ _ => True) hb) (fun _ => trivial) (fun _ => trivial) trivial (h.bl.trans (hb.mono h.bl.size))
theorem PK.grown {row : Option Nat} (h : PK w ep n of bv bl B X) (hg : X.grownBy Y row) (hr : ∀ r, row = some r → w.heap.size ≤ r ∧ ∃ o : Obj, X.heap[r]? = some o ∧ o.isCells = false) : PK w ep n of bv bl B Y :=
  h.kept (KX.of_grown (p := fun _ _ => True) hg (fun r e => (hr r e).2)) (fun _ => trivial) (fun _ => trivial) trivial (h.bl.trans ((Below.refl _ _).grown hg h.bl.size (fun r e => (hr r e).1)))
theorem PK.dc {b c L : Nat} (h : PK w ep n of (.slice (some ⟨b, 0, none⟩) L c) bl B X) : DC (.slice (some ⟨b, 0, none⟩) L c) bl (B + 1 + 1) X := ⟨RB.own h.ow, h.b1, h.b2⟩
theorem QS.below (h : QS w ep n of bv bl B ss sv X) (hb : Below X.heap.size X Y) : QS w ep n of bv bl B ss sv Y := ⟨(hb.block _ h.bs.lt).trans h.bs, h.op.below hb, h.pk.below hb, h.hB, h.hne⟩
theorem QS.grown {row : Option Nat} (h : QS w ep n of bv bl B ss sv X) (hg : X.grownBy Y row) (hr : ∀ r, row = some r → w.heap.size ≤ r ∧ ∃ o : Obj, X.heap[r]? = some o ∧ o.isCells = false) : QS w ep n of bv bl B ss sv Y := by
  have hk : KX (fun _ _ => True) X Y := KX.of_grown hg (fun r e => (hr r e).2)
  exact ⟨hk.boxed trivial h.bs, hk.op (fun _ => trivial) (fun _ => trivial) h.op, h.pk.grown hg hr, h.hB, h.hne⟩
theorem QS.push (h : QS w ep n of bv bl B ss sv X) {us : List (List UInt8 × Value)} (hus : us.map (·.1) = ss) (ho : X.ownsRow w.heap.size 23 1 sv us.length (us.map (·.2))) (hf : ∀ x ∈ us, FB 5 X w.heap.size x.2 x.1)
    {tmp : Obj} {w1 : World} {v' u : Value} {l : List UInt8} (hu : FB 5 X w.heap.size u l) (ho' : w1.ownsRow w.heap.size 23 1 v' (us.length + 1) (us.map (·.2) ++ [u])) (hg : (X.alloc tmp).grownBy w1 sv.ownBlock) (hv' : v'.ownBlock = sv.ownBlock ∨ v'.ownBlock = some (X.alloc tmp).heap.size) :
    Boxed w1 (B + 1) 29 sv ∧ PK w ep n of bv bl B w1 ∧ QS w ep n of bv bl B (ss ++ [l]) v' (w1.setCell ⟨B + 1, 0, none⟩ v') ∧ KeepsOthers X (w1.setCell ⟨B + 1, 0, none⟩ v') := by
  have hB1 : w.heap.size ≤ B + 1 := Nat.le_trans h.hB (Nat.le_succ _)
  obtain ⟨hb1, hb2, hr, hko, hbel⟩ := h.bs.appended (by decide) ho h.pk.bl.size hB1 ho' hg
  have hkx := appended_kx h.bs (by decide) ho h.pk.bl.size hB1 ho' hg
  have hk1 := appended_kx1 ho hg
  have hbw : Below w.heap.size X w1 := ((Below.refl _ X).alloc h.pk.bl.size tmp).grown hg (Nat.le_trans h.pk.bl.size (by simp)) (fun k hk => by
    rcases ho.2 with ⟨rfl, _⟩ | ⟨g, cap, cur, rfl, hbg, _⟩
    · simp [Value.ownBlock] at hk
    · obtain rfl : g = k := by simpa [Value.ownBlock] using hk
      exact hbg)
  have hnr : (some (B + 1 + 1) : Option Nat) ≠ sv.ownBlock := fun e => h.hne _ e.symm rfl
  have hB2 : Boxed w1 (B + 1 + 1) 23 bv := (h.pk.b1.alloc tmp).kept hg hnr
  have hlt := h.pk.b1.lt
  have pk1 : PK w ep n of bv bl B w1 := by
    have q5 : ∀ g : Nat, ((5 : TypeId) ≠ 23) ∨ g < w.heap.size := fun _ => .inl (by decide)
    have q3 : ∀ g : Nat, ((3 : TypeId) ≠ 23) ∨ g < w.heap.size := fun _ => .inl (by decide)
    exact ⟨hk1.own h.pk.ow (fun _ _ => q5 _), hk1.boxed (q3 _) h.pk.be, hk1.boxed (q3 _) h.pk.bn, hk1.boxed (q3 _) h.pk.bc, hB2, hk1.boxed (q3 _) h.pk.b2, h.pk.bl.trans hbw⟩
  have h5 : ∀ g : Nat, ((5 : TypeId) ≠ 23 ∧ (5 : TypeId) ≠ 29) ∨ g < w.heap.size := fun _ => .inl (by decide)
  have h3 : ∀ g : Nat, ((3 : TypeId) ≠ 23 ∧ (3 : TypeId) ≠ 29) ∨ g < w.heap.size := fun _ => .inl (by decide)
  have pk2 : PK w ep n of bv bl B (w1.setCell ⟨B + 1, 0, none⟩ v') :=
    ⟨hkx.own h.pk.ow (fun _ _ => h5 _), hkx.boxed (h3 _) h.pk.be, hkx.boxed (h3 _) h.pk.bn, hkx.boxed (h3 _) h.pk.bc, hB2.other (by omega) v', hkx.boxed (h3 _) h.pk.b2, h.pk.bl.trans hbel⟩
  refine ⟨hb1, pk1, ⟨hb2, ⟨us ++ [(l, u)], by rw [List.map_append, hus]; rfl, ?_, fun x hx => ?_⟩, pk2, h.hB, fun g hg' => ?_⟩, hko⟩
  · rw [List.map_append, List.length_append]
    exact hr
  · rcases List.mem_append.1 hx with hx | hx
    · exact hkx.fb h5 (hf x hx)
    · simp at hx
      subst hx
      exact hkx.fb h5 hu
  · rcases hv' with h' | h'
    · exact h.hne g (h'.symm.trans hg')
    · rw [h'] at hg'
      injection hg' with hg'
      rw [World.size_alloc] at hg'
      omega
end
end Go.Proofs.Ytomkbgghljcbfaa
