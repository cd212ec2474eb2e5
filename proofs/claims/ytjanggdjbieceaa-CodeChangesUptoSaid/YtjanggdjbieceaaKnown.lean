/-
  The contracts of code.ReadRows and of the statements' own function known: it answers true.
-/
import Derived.Test.YtjanggdjbieceaaTake2
import Derived.Lib.SlBytesConst
namespace Go.Proofs.Ytjanggdjbieceaa
open Go.RowKit Go.Rst

set_option maxRecDepth 100000 in
set_option maxHeartbeats 1600000 in
theorem readRows_any (v : Value) (l : List UInt8) (w : World) (hv : RB w v l) : Calls Try.prog 13 #[v] w (GivesRows w (readRows l)) := by
  go_enter Try.func13, Try.ntmps13
  go_wp2_with fail
  refine (take_any v l w hv).mono ?_
  rintro x w1 ⟨u, rfl, hor, hb⟩
  go_wp2
  go_ret2
  exact ⟨u, rfl, hor, hb⟩

theorem known_read : readRows [1, 1, 97, 1, 49] = ([(⟨#[97]⟩, [49])], 0) := by rfl
theorem known_num : getNum [128, 0] 0 = (0, 0, 11) := by rfl
theorem known_300 : numL (clip 300) = [172, 2] := by
  have : clip 300 = 300 := by decide
  rw [this, numL_ge (by decide), numL_lt (by decide)]; rfl
theorem known_rows : rowsL [(⟨#[97]⟩, [49])] = [1, 1, 97, 1, 49] := by
  have e : (⟨#[97]⟩ : ByteArray).size = 1 := rfl
  simp [rowsL, rowsB, rowL, textL, numL_lt, e]

set_option maxRecDepth 100000 in
set_option maxHeartbeats 1600000 in
theorem known_any (w : World) : Calls Try.prog 15 #[] w fun e w' => e = .returned (.bool true) ∧ Below w.heap.size w w' := by
  have hkr := known_read
  have hkn := known_num
  have HKR := Lib.hid hkr
  have HKN := Lib.hid hkn
  clear hkr hkn
  go_enter Try.func15, Try.ntmps15
  have kc := fun (W : World) (C : Array Value) (n c : Nat) => Lib.run_convert_bytes_const (P := Try.prog) W 22 5 C n c Try.underlying22 Try.underlying5
  go_wp2_with fail
  refine (readRows_any _ [1, 1, 97, 1, 49] _ (RB.lit w 5 _ [1, 1, 97, 1, 49] _ rfl 5 rfl (by decide))).mono ?_
  rw [HKR.out]
  rintro x w1 ⟨u, rfl, hor, hb1⟩
  have hb1' : Below w.heap.size w w1 := ((Below.refl _ _).alloc (Nat.le_refl _) _).trans (hb1.mono (by simp))
  have hrr := hor.rr
  obtain ⟨A, c, rfl, hlc, hc, hcells⟩ := hrr
  obtain ⟨b, off, rfl, hb, hcell⟩ : ∃ b off, A = some ⟨b, off, none⟩ ∧ b < w1.heap.size ∧ w1.cell? ⟨b, off, none⟩ = some (.string ⟨#[97]⟩) := by
    rcases hcells with h | ⟨b, off, h1, h2, h3⟩
    · cases h
    · exact ⟨b, off, h1, h2, by have := (h3 0 (by simp)).1; simpa using this⟩
  have HOR := Lib.hid hor
  have HB1 := Lib.hid hb1'
  clear hor hb1 hb1' hcells
  go_wp2_with fail
  refine (getNum_any _ [128, 0] 0 _ (RB.lit w1 5 _ [128, 0] _ rfl 2 rfl (by decide))).mono ?_
  rw [HKN.out]
  rintro x w2 ⟨rfl, rfl⟩
  have HB2 : Hid (Below w1.heap.size w1 (w1.alloc (Obj.cells (bvs [128, 0]).toArray 5))) := Lib.hid ((Below.refl _ _).alloc (Nat.le_refl _) _)
  have HC2 : Hid ((w1.alloc (Obj.cells (bvs [128, 0]).toArray 5)).cell? ⟨b, off, none⟩ = some (.string ⟨#[97]⟩)) := Lib.hid ((HB2.out.cell (p := ⟨b, off, none⟩) hb).trans hcell)
  have hb2 : b < (w1.alloc (Obj.cells (bvs [128, 0]).toArray 5)).heap.size := by have := HB2.out.size; omega
  clear hcell
  generalize w1.alloc (Obj.cells (bvs [128, 0]).toArray 5) = w2 at *
  go_wp2_with fail
  refine (num_any 300 w2).mono ?_
  rw [known_300]
  rintro x w3 ⟨v3, rfl, hown3, hb3⟩
  have hs3 := (RB.own hown3).str (P := Try.prog) (src := 22) (dst := 9) Try.underlying22 Try.underlying5 Try.underlying9
  have hc3 := (hb3.cell (p := ⟨b, off, none⟩) hb2).trans HC2.out
  have HB3 := Lib.hid hb3
  clear hown3 hb3
  go_wp2_with fail
  have hrb : (rowsB [((⟨#[97]⟩ : ByteArray), ([49] : List UInt8))]).length ≤ 1000000000 := by
    have h := congrArg List.length known_rows
    rw [rowsL, List.length_append] at h
    simp only [List.length_cons, List.length_nil] at h
    omega
  refine (rows_any _ [(⟨#[97]⟩, [49])] hrb (by decide) w3 ?_).mono ?_
  · exact ((HOR.out.below HB2.out).below HB3.out).rr
  rw [known_rows]
  rintro x w4 ⟨v4, rfl, hown4, hb4⟩
  have hs4 := (RB.own hown4).str (P := Try.prog) (src := 22) (dst := 9) Try.underlying22 Try.underlying5 Try.underlying9
  have HB4 := Lib.hid hb4
  clear hown4 hb4
  go_wp2
  go_ret
  have h1 := HB1.out
  have h2 := HB2.out
  have h3 := HB3.out
  have h4 := HB4.out
  have s1 := h1.size
  have s2 := h2.size
  have s3 := h3.size
  exact ⟨rfl, ((h1.trans (h2.mono s1)).trans (h3.mono (by omega))).trans (h4.mono (by omega))⟩
end Go.Proofs.Ytjanggdjbieceaa
