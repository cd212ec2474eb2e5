/-
  What the program's Diff holds while it goes from pair to pair.
-/
import Derived.Test.YtomkbgghljcbfaaGRf
import Derived.Test.YtomkbgghljcbfaaPairs
import Derived.Test.YtomkbgghljcbfaaGTake
import Derived.Test.YtomkbgghljcbfaaGWords
import Derived.Test.YtomkbgghljcbfaaGPure
set_option linter.unusedVariables false

namespace Go.Proofs.Ytomkbgghljcbfaa
open Go.RowKit Go.Rst Go.Pg Go.Crc Go.Shelf
theorem chCells_append (a b : List (Chg × Value)) : chCells (a ++ b) = chCells a ++ chCells b := by unfold chCells; rw [List.flatMap_append]
theorem KX.oc_ {p : Nat → TypeId → Prop} {w w' : World} (h : KX p w w') {base : Nat} {e eR : TypeId} {v : Value} {cs : List Chg} (h5 : ∀ g, p g e) (hp : ∀ g, v.ownBlock = some g → p g eR) (ho : OC e eR w base v cs) : OC e eR w' base v cs := by
  obtain ⟨us, hu, ho, hf⟩ := ho
  exact ⟨us, hu, h.own ho hp, fun x hx => h.fb h5 (hf x hx)⟩
theorem DK.below {w X Y : World} {fv tv : Value} (h : DK w fv tv X) (hb : Below X.heap.size X Y) : DK w fv tv Y :=
  ⟨h.1.trans (hb.mono h.1.size), (hb.block _ h.2.1.lt).trans h.2.1, (hb.block _ h.2.2.lt).trans h.2.2⟩
theorem DK.drew {w X : World} {fv tv : Value} (h : DK w fv tv X) : DK w fv tv X.drew := h.below (Below.refl _ _).drew
theorem DK.ptr {w X : World} {fv tv v : Value} {o : Option Rw} (h : DK w fv tv X) (hp : PtrTo w v o) : PtrTo X v o := by
  cases o with
  | none => exact hp
  | some r =>
    obtain ⟨b, off, u, h1, h2, h3, h4, h5⟩ := hp
    exact ⟨b, off, u, h1, Nat.lt_of_lt_of_le h2 h.1.size, (h.1.cell (p := ⟨b, off, none⟩) h2).trans h3, (h.1.cell (p := ⟨b, off + 1, none⟩) h2).trans h4, h5.below h.1⟩
theorem DK.grown {w X Y : World} {fv tv : Value} {row : Option Nat} (h : DK w fv tv X) (hg : X.grownBy Y row) (hr : ∀ r, row = some r → w.heap.size ≤ r ∧ ∃ o : Obj, X.heap[r]? = some o ∧ o.isCells = false) : DK w fv tv Y := by
  have hk : KX (fun _ _ => True) X Y := KX.of_grown hg (fun r e => (hr r e).2)
  exact ⟨h.1.trans ((Below.refl _ _).grown hg h.1.size (fun r e => (hr r e).1)), hk.boxed trivial h.2.1, hk.boxed trivial h.2.2⟩
/-- The state of Diff: the changes so far, in a box. -/
structure CS (w : World) (fv tv : Value) (cs : List Chg) (cv : Value) (X : World) : Prop where
  bx : Boxed X w.heap.size 22 cv
  oc : OC 5 51 X w.heap.size cv cs
  dk : DK w fv tv X
section
variable {w : World} {fv tv : Value} {cs : List Chg} {cv : Value} {X Y : World}
theorem CS.below (h : CS w fv tv cs cv X) (hb : Below X.heap.size X Y) : CS w fv tv cs cv Y := ⟨(hb.block _ h.bx.lt).trans h.bx, h.oc.below hb, h.dk.below hb⟩
theorem CS.grown {row : Option Nat} (h : CS w fv tv cs cv X) (hg : X.grownBy Y row) (hr : ∀ r, row = some r → w.heap.size ≤ r ∧ ∃ o : Obj, X.heap[r]? = some o ∧ o.isCells = false) : CS w fv tv cs cv Y := by
  have hk : KX (fun _ _ => True) X Y := KX.of_grown hg (fun r e => (hr r e).2)
  exact ⟨hk.boxed trivial h.bx, hk.oc_ (fun _ => trivial) (fun _ _ => trivial) h.oc, h.dk.grown hg hr⟩
theorem CS.push (h : CS w fv tv cs cv X) {us : List (Chg × Value)} (hus : us.map (·.1) = cs) (ho : X.ownsRow w.heap.size 51 3 cv us.length (chCells us)) (hf : ∀ x ∈ us, FB 5 X w.heap.size x.2 x.1.2.1)
    {tmp : Obj} {w1 : World} {v' u : Value} {k : ByteArray} {l : List UInt8} {g : Bool} (hu : FB 5 X w.heap.size u l) (ho' : w1.ownsRow w.heap.size 51 3 v' (us.length + 1) (chCells us ++ [.string k, u, .bool g])) (hg : (X.alloc tmp).grownBy w1 cv.ownBlock) :
    Boxed w1 w.heap.size 22 cv ∧ DK w fv tv w1 ∧ CS w fv tv (cs ++ [(k, l, g)]) v' (w1.setCell ⟨w.heap.size, 0, none⟩ v') ∧ KeepsOthers X (w1.setCell ⟨w.heap.size, 0, none⟩ v') ∧ Below w.heap.size X (w1.setCell ⟨w.heap.size, 0, none⟩ v') := by
  obtain ⟨hb1, hb2, hr, hko, hbel⟩ := h.bx.appended (by decide) ho h.dk.1.size (Nat.le_refl _) ho' hg
  have hkx := appended_kx h.bx (by decide) ho h.dk.1.size (Nat.le_refl _) ho' hg
  have hk1 := appended_kx1 ho hg
  have hbw : Below w.heap.size X w1 := ((Below.refl _ X).alloc h.dk.1.size tmp).grown hg (Nat.le_trans h.dk.1.size (by simp)) (fun k hk => by
    rcases ho.2 with ⟨rfl, _⟩ | ⟨g, cap, cur, rfl, hbg, _⟩
    · simp [Value.ownBlock] at hk
    · obtain rfl : g = k := by simpa [Value.ownBlock] using hk
      exact hbg)
  have h5 : ∀ g : Nat, ((5 : TypeId) ≠ 51 ∧ (5 : TypeId) ≠ 22) ∨ g < w.heap.size := fun _ => .inl (by decide)
  refine ⟨hb1, ⟨h.dk.1.trans hbw, hk1.boxed (.inl (by decide)) h.dk.2.1, hk1.boxed (.inl (by decide)) h.dk.2.2⟩, ⟨hb2, ⟨us ++ [((k, l, g), u)], by rw [List.map_append, hus]; rfl, ?_, fun x hx => ?_⟩, ⟨h.dk.1.trans hbel, hkx.boxed (.inl (by decide)) h.dk.2.1, hkx.boxed (.inl (by decide)) h.dk.2.2⟩⟩, hko, hbel⟩
  · rw [List.length_append, chCells_append]
    exact hr
  · rcases List.mem_append.1 hx with hx | hx
    · exact hkx.fb h5 (hf x hx)
    · simp at hx
      subst hx
      exact hkx.fb h5 hu
end
end Go.Proofs.Ytomkbgghljcbfaa

/-
  Words on checks, over the seat's program, without any of its functions.
-/
namespace Go.Proofs.Ytomkbgghljcbfaa
open Go.RowKit Go.Rst Go.Crc
theorem xor32 {a b : Nat} (ha : a < B32) (hb : b < B32) : bits .xor .u32 (a : Int) (b : Int) = ((a ^^^ b : Nat) : Int) := u32_xor_nat a b ha hb
theorem xor32_poly {a : Nat} (ha : a < B32) : bits .xor .u32 (a : Int) 3988292384 = ((a ^^^ poly : Nat) : Int) := xor32 ha poly_lt
theorem xor8 {a b : Nat} (ha : a < 256) (hb : b < 256) : bits .xor .u8 (a : Int) (b : Int) = ((a ^^^ b : Nat) : Int) := u8_xor_nat a b ha hb
theorem xor32_ones {a : Nat} (ha : a < B32) : bits .xor .u32 (a : Int) 4294967295 = ((a ^^^ ones : Nat) : Int) := xor32 ha ones_lt
theorem take_snoc (l : List UInt8) (k : Nat) (h : k < l.length) : l.take (k + 1) = l.take k ++ [l[k]] := by
  rw [List.take_succ_eq_append_getElem h]
theorem craw_take (n : Nat) (l : List UInt8) (k : Nat) (h : k < l.length) : craw n (l.take (k + 1)) = cbyte (craw n (l.take k)) l[k] := by
  rw [take_snoc l k h, craw_snoc]
/-- A literal of bytes in a block of its own. -/
theorem own_lit {w : World} {e : TypeId} {l : List UInt8} {cs : Array Value} {n : Nat} (hcs : cs = (bvs l).toArray) (hn : n = l.length) (hm : n ≤ 1000000) :
    (w.alloc (.cells cs e)).ownsRow w.heap.size e 1 (.slice (some ⟨w.heap.size, 0, none⟩) n n) l.length (bvs l) := by
  subst hcs
  subst hn
  refine ⟨by simp [bvs_length], .inr ⟨w.heap.size, l.length, _, rfl, Nat.le_refl _, heap_alloc_new w _, Nat.le_refl _, by unfold maxLen; omega, by simp [bvs_length], ?_⟩⟩
  simp only [Nat.mul_one]
  rw [List.take_of_length_le (by simp [bvs_length])]
theorem tail_cells {n : Nat} (hn : n ≤ 4294967295) : #[Value.int .u8 ((n : Int) % 256), .int .u8 ((n : Int) / 256 % 256), .int .u8 ((n : Int) / 65536 % 256), .int .u8 ((n : Int) / 16777216)] = (bvs (tailL n)).toArray := by
  have e : (n : Int) / 16777216 = (n : Int) / 16777216 % 256 := by omega
  rw [e]
  unfold tailL bvs bv
  simp only [List.map_cons, List.map_nil, UInt8.toNat_ofNat']
  simp
theorem tail_own {n : Nat} {cs : Array Value} (h : cs = (bvs (tailL n)).toArray) (w : World) (e : TypeId) : (w.alloc (.cells cs e)).ownsRow w.heap.size e 1 (.slice (some ⟨w.heap.size, 0, none⟩) 4 4) (tailL n).length (bvs (tailL n)) :=
  own_lit h (tailL_length n).symm (by decide)
end Go.Proofs.Ytomkbgghljcbfaa

/-
  The contracts of crc.tail and of the reference's Seal: four bytes of a number, the least first; bytes with their check behind.
-/
namespace Go.Proofs.Ytomkbgghljcbfaa
open Go.RowKit Go.Rst Go.Crc
set_option maxRecDepth 100000 in
set_option maxHeartbeats 400000 in
theorem tail_any (n : Nat) (hn : n < B32) (w : World) : Calls Try.prog 83 #[.int .u32 n] w (NewB 5 w (tailL n)) := by
  have hb : n ≤ 4294967295 := by unfold B32 at hn; omega
  go_enter Try.func83, Try.ntmps83
  go_wp2
  go_ret
  exact ⟨_, rfl, own_lit (l := tailL n) (tail_cells hb) rfl (by decide), (Below.refl _ _).alloc (Nat.le_refl _) _⟩

end Go.Proofs.Ytomkbgghljcbfaa
