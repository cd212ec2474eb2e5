/-
  The chapter's example holds: known returns true.
-/
import Derived.Test.YtloklbjaabbgcaaRefRight
import Derived.Lib.SlBytesConst
namespace Go.Proofs.Ytloklbjaabbgcaa
open Go.RowKit Go.Rst Go.Crc

def K9 : List UInt8 := [49, 50, 51, 52, 53, 54, 55, 56, 57]
theorem csum_K9 : csum K9 = 3421780262 := by decide +kernel
theorem sum_K9 (v : Value) (w : World) (hv : RB w v K9) :
    Calls Try.prog 9 #[v] w fun e w' => e = .returned (.int .u32 3421780262) ∧ Below w.heap.size w w' :=
  (sum_any v K9 w hv).mono fun e w' h => by rw [csum_K9] at h; exact h
theorem right_sealed (v : Value) (l : List UInt8) (w : World) (hv : RB w v (sealL l)) :
    Calls Try.prog 10 #[v] w fun e w' => e = .returned (.bool true) ∧ Below w.heap.size w w' :=
  (right_any v _ w hv).mono fun e w' h => by rw [rightL_seal] at h; exact h
theorem right_nil (w : World) :
    Calls Try.prog 10 #[.slice none 0 0] w fun e w' => e = .returned (.bool false) ∧ Below w.heap.size w w' := right_any _ [] w (RB.nil_ w)

set_option maxRecDepth 100000 in
set_option maxHeartbeats 1000000 in
theorem known_any (w : World) : Calls Try.prog 8 #[] w fun e w' => e = .returned (.bool true) ∧ Below w.heap.size w w' := by
  have hlit : ∀ W : World, RB (W.alloc (.cells #[.int .u8 49, .int .u8 50, .int .u8 51, .int .u8 52, .int .u8 53, .int .u8 54, .int .u8 55, .int .u8 56, .int .u8 57] 5 (9, 10))) (.slice (some ⟨W.heap.size, 0, none⟩) 9 9) K9 :=
    fun W => RB.lit W 5 (9, 10) K9 _ rfl 9 rfl (by decide)
  have hlit1 : ∀ W : World, RB (W.alloc (.cells #[.int .u8 97] 5 (1, 2))) (.slice (some ⟨W.heap.size, 0, none⟩) 1 1) [97] :=
    fun W => RB.lit W 5 (1, 2) [97] _ rfl 1 rfl (by decide)
  have HL := Lib.hid hlit
  have HL1 := Lib.hid hlit1
  clear hlit hlit1
  have kc := fun (W : World) (C : Array Value) (n c : Nat) => Lib.run_convert_bytes_const (P := Try.prog) W 22 5 C n c Try.underlying22 Try.underlying5
  go_enter Try.func8, Try.ntmps8
  go_wp2_with fail
  refine (sum_K9 _ _ (HL.out _)).mono ?_
  rintro e w1 ⟨rfl, hb⟩
  have HB1 := Lib.hid (((Below.refl w.heap.size w).alloc (Nat.le_refl _) _).trans (hb.mono (by simp)))
  clear hb
  go_wp2_with fail
  refine (seal_any _ _ _ (HL1.out _) (by decide)).mono ?_
  rintro e w2 ⟨v2, rfl, hown, hb⟩
  have HB2 := Lib.hid ((HB1.out.alloc HB1.out.size _).trans (hb.mono (by have := HB1.out.size; simp; omega)))
  have HO := Lib.hid hown
  clear hb hown HB1
  go_wp2_with fail
  refine (right_sealed _ _ _ (RB.own HO.out)).mono ?_
  rintro e w3 ⟨rfl, hb⟩
  have HB3 := Lib.hid (HB2.out.trans (hb.mono HB2.out.size))
  clear hb HB2
  go_wp2_with fail
  refine (right_nil _).mono ?_
  rintro e w4 ⟨rfl, hb⟩
  have HB4 := Lib.hid (HB3.out.trans (hb.mono HB3.out.size))
  clear hb HB3
  go_wp2
  go_ret
  exact ⟨rfl, HB4.out⟩
end Go.Proofs.Ytloklbjaabbgcaa
