/-
  The chapter's example holds: known returns true, where the program's tables hold what they were laid with.
-/
import Derived.Test.YtbfemhhmijlmlaaDoorSum
import Derived.Lib.SlBytesConst
namespace Go.Proofs.YtbfemhhmijlmlaaDoor
open Go.RowKit Go.Rst Go.Sha

def abc : List UInt8 := [0xba, 0x78, 0x16, 0xbf, 0x8f, 0x01, 0xcf, 0xea, 0x41, 0x41, 0x40, 0xde, 0x5d, 0xae, 0x22, 0x23, 0xb0, 0x03, 0x61, 0xa3, 0x96, 0x17, 0x7a, 0x9c, 0xb4, 0x10, 0xff, 0x61, 0xf2, 0x00, 0x15, 0xad]
theorem sum_abc (v : Value) (w : World) (hv : RB w v [97, 98, 99]) (hL : Laid w) :
    Calls Tryd.prog 7 #[v] w fun e w' => e = .returned (.agg (bva abc)) ∧ Below w.heap.size w w' :=
  (sum_any v _ w hv (by decide) hL).mono fun e w' h => by rw [k_abc] at h; exact h

set_option maxRecDepth 100000 in
set_option maxHeartbeats 1000000 in
theorem known_any (w : World) (hL : Laid w) : Calls Tryd.prog 6 #[] w fun e w' => e = .returned (.bool true) ∧ Below w.heap.size w w' := by
  have hlit : ∀ W : World, RB (W.alloc (.cells #[.int .u8 97, .int .u8 98, .int .u8 99] 5 (3, 4))) (.slice (some ⟨W.heap.size, 0, none⟩) 3 3) [97, 98, 99] :=
    fun W => RB.lit W 5 (3, 4) [97, 98, 99] _ rfl 3 rfl (by decide)
  have HLit := Lib.hid hlit
  have HL := Lib.hid hL
  clear hlit hL
  obtain ⟨Z, hZ⟩ : ∃ Z, Z = Array.replicate 32 (Value.int .u8 0) := ⟨_, rfl⟩
  have z24 := zero24
  rw [← hZ] at z24
  rw [← fillB_nil] at hZ
  have HZ := Lib.hid hZ
  clear hZ
  have kc := fun (W : World) (C : Array Value) (n c : Nat) => Lib.run_convert_bytes_const (P := Tryd.prog) W 22 5 C n c Tryd.underlying22 Tryd.underlying5
  go_enter Tryd.func6, Tryd.ntmps6
  go_wp2_with fail
  have hB0 := (Below.refl w.heap.size w).alloc (Nat.le_refl _) (.cells #[.int .u8 97, .int .u8 98, .int .u8 99] 5 (3, 4))
  refine (sum_abc _ _ (HLit.out w) (HL.out.below hB0)).mono ?_
  rintro e w1 ⟨rfl, hb⟩
  have hB1 : Below w.heap.size w w1 := hB0.trans (hb.mono hB0.size)
  have HB1 := Lib.hid hB1
  clear hB0 hB1 hb
  have hD8 : (Tryd.prog.info? 24).map (·.size) = some (bva abc).size := info24s (by rfl)
  have hZD : Z.size = (bva abc).size := by rw [HZ.out, fillB_size (by decide)]; rfl
  have hone := bva_oneCell abc
  have e0 : (bva abc)[0]? = some (.int .u8 186) := rfl
  have e1 : (bva abc)[1]? = some (.int .u8 120) := rfl
  have e2 : (bva abc)[2]? = some (.int .u8 22) := rfl
  have e3 : (bva abc)[3]? = some (.int .u8 191) := rfl
  generalize bva abc = D at *
  have HD8 := Lib.hid hD8
  have HZD := Lib.hid hZD
  have HON := Lib.hid hone
  have hblk : Blk ((w1.alloc (Obj.cells Z 24)).setRow w1.heap.size D) w1.heap.size 24 D := setRow_heap _ _ _ _ _ _ (heap_alloc_new _ _)
  have c0 := (hblk.cell 0).trans e0
  have c1 := (hblk.cell 1).trans e1
  have c2 := (hblk.cell 2).trans e2
  have c3 := (hblk.cell 3).trans e3
  have hB2 : Below w.heap.size w ((w1.alloc (Obj.cells Z 24)).setRow w1.heap.size D) := (HB1.out.alloc HB1.out.size _).trans (setRow_bel _ _ _ HB1.out.size)
  have HB2 := Lib.hid hB2
  have hr := round_any 0 _ (HL.out.below hB2)
  have hg := begin_any 0 _ (HL.out.below hB2)
  rw [show wv (tab kts 0) = .int .u32 1116352408 from rfl] at hr
  rw [show wv (tab hbs 0) = .int .u32 1779033703 from rfl] at hg
  have HR := Lib.hid hr
  have HG := Lib.hid hg
  clear hD8 hZD hone e0 e1 e2 e3 hblk hB2 hr hg
  go_wp2_with (refine wpList_store_row rfl 24 (.tmp 1) (.tmp 4) rfl w1.heap.size D rfl rfl 24 Z (heap_alloc_new _ _) HD8.out HZD.out HON.out ?_)
  refine HR.out.mono ?_
  rintro e w' ⟨rfl, rfl⟩
  go_wp2_with fail
  refine HG.out.mono ?_
  rintro e w' ⟨rfl, rfl⟩
  go_wp2
  go_ret
  exact ⟨rfl, HB2.out⟩
end Go.Proofs.YtbfemhhmijlmlaaDoor
