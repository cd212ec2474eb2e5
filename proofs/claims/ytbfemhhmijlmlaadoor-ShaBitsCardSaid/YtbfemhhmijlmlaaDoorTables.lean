/-
  The contracts of sha.Round, sha.Begin and the reference's: they are the tables' numbers; 0 outside. The program's two where its tables hold them.
-/
import Derived.Test.YtbfemhhmijlmlaaDoorWords
import Derived.Below
namespace Go.Proofs.YtbfemhhmijlmlaaDoor
open Go.RowKit Go.Rst Go.Sha

/-- A word as a cell. -/
def wv (x : UInt32) : Value := .int .u32 (x.toNat : Int)
/-- The program's two tables hold what they were laid with. -/
def Laid (w : World) : Prop := (∀ i, i < 64 → w.cell? ⟨0, i, none⟩ = some (wv (kts.getD i 0))) ∧ (∀ i, i < 8 → w.cell? ⟨1, i, none⟩ = some (wv (hbs.getD i 0)))
theorem Laid.below {w w' : World} (h : Laid w) (hb : Below w.heap.size w w') : Laid w' := by
  have b0 : 0 < w.heap.size := block_lt_of_cell (h.1 0 (by decide))
  have b1 : 1 < w.heap.size := block_lt_of_cell (h.2 0 (by decide))
  exact ⟨fun i hi => (hb.cell (p := ⟨0, i, none⟩) b0).trans (h.1 i hi), fun i hi => (hb.cell (p := ⟨1, i, none⟩) b1).trans (h.2 i hi)⟩
theorem tab_in (l : List UInt32) (k : Nat) : tab l (k : Int) = l.getD k 0 := by simp [tab, show ¬ (k : Int) < 0 from by omega]

set_option maxRecDepth 100000 in
set_option maxHeartbeats 400000 in
theorem round_any (i : Int) (w : World) (hL : Laid w) :
    Calls Tryd.prog 9 #[.int .i64 i] w fun e w' => e = .returned (wv (tab kts i)) ∧ w = w' := by
  by_cases h0 : i < 0
  · have e : tab kts i = 0 := by simp [tab, h0]
    rw [e]
    clear hL
    go_enter Tryd.func9, Tryd.ntmps9
    go_wp2
    go_ret
    exact ⟨rfl, rfl⟩
  · by_cases h1 : 64 ≤ i
    · have e : tab kts i = 0 := by
        unfold tab
        rw [if_neg h0, List.getD_eq_getElem?_getD, List.getElem?_eq_none (show kts.length ≤ i.toNat by show 64 ≤ i.toNat; omega)]
        rfl
      rw [e]
      clear hL
      go_enter Tryd.func9, Tryd.ntmps9
      go_wp2
      go_ret
      exact ⟨rfl, rfl⟩
    · obtain ⟨k, rfl⟩ : ∃ k : Nat, i = (k : Int) := ⟨i.toNat, by omega⟩
      have hk : k < 64 := by omega
      have hc := hL.1 k hk
      rw [tab_in]
      generalize kts.getD k 0 = x at *
      unfold wv at hc ⊢
      clear hL
      have hk' : (k : Int) < 64 := by omega
      have hk0 : (0 : Int) ≤ (k : Int) := by omega
      go_enter Tryd.func9, Tryd.ntmps9
      go_wp2
      go_ret
      exact ⟨rfl, rfl⟩
set_option maxRecDepth 100000 in
set_option maxHeartbeats 400000 in
theorem begin_any (i : Int) (w : World) (hL : Laid w) :
    Calls Tryd.prog 11 #[.int .i64 i] w fun e w' => e = .returned (wv (tab hbs i)) ∧ w = w' := by
  by_cases h0 : i < 0
  · have e : tab hbs i = 0 := by simp [tab, h0]
    rw [e]
    clear hL
    go_enter Tryd.func11, Tryd.ntmps11
    go_wp2
    go_ret
    exact ⟨rfl, rfl⟩
  · by_cases h1 : 8 ≤ i
    · have e : tab hbs i = 0 := by
        unfold tab
        rw [if_neg h0, List.getD_eq_getElem?_getD, List.getElem?_eq_none (show hbs.length ≤ i.toNat by show 8 ≤ i.toNat; omega)]
        rfl
      rw [e]
      clear hL
      go_enter Tryd.func11, Tryd.ntmps11
      go_wp2
      go_ret
      exact ⟨rfl, rfl⟩
    · obtain ⟨k, rfl⟩ : ∃ k : Nat, i = (k : Int) := ⟨i.toNat, by omega⟩
      have hk : k < 8 := by omega
      have hc := hL.2 k hk
      rw [tab_in]
      generalize hbs.getD k 0 = x at *
      unfold wv at hc ⊢
      clear hL
      have hk' : (k : Int) < 8 := by omega
      have hk0 : (0 : Int) ≤ (k : Int) := by omega
      go_enter Tryd.func11, Tryd.ntmps11
      go_wp2
      go_ret
      exact ⟨rfl, rfl⟩
theorem lit_hbs : [Value.int IntKind.u32 1779033703, Value.int IntKind.u32 3144134277, Value.int IntKind.u32 1013904242, Value.int IntKind.u32 2773480762, Value.int IntKind.u32 1359893119, Value.int IntKind.u32 2600822924, Value.int IntKind.u32 528734635, Value.int IntKind.u32 1541459225] = hbs.map wv := by kernel_rfl
theorem lit_kts : [Value.int IntKind.u32 1116352408, Value.int IntKind.u32 1899447441, Value.int IntKind.u32 3049323471, Value.int IntKind.u32 3921009573, Value.int IntKind.u32 961987163, Value.int IntKind.u32 1508970993, Value.int IntKind.u32 2453635748, Value.int IntKind.u32 2870763221, Value.int IntKind.u32 3624381080, Value.int IntKind.u32 310598401, Value.int IntKind.u32 607225278, Value.int IntKind.u32 1426881987, Value.int IntKind.u32 1925078388, Value.int IntKind.u32 2162078206, Value.int IntKind.u32 2614888103, Value.int IntKind.u32 3248222580, Value.int IntKind.u32 3835390401, Value.int IntKind.u32 4022224774, Value.int IntKind.u32 264347078, Value.int IntKind.u32 604807628, Value.int IntKind.u32 770255983, Value.int IntKind.u32 1249150122, Value.int IntKind.u32 1555081692, Value.int IntKind.u32 1996064986, Value.int IntKind.u32 2554220882, Value.int IntKind.u32 2821834349, Value.int IntKind.u32 2952996808, Value.int IntKind.u32 3210313671, Value.int IntKind.u32 3336571891, Value.int IntKind.u32 3584528711, Value.int IntKind.u32 113926993, Value.int IntKind.u32 338241895, Value.int IntKind.u32 666307205, Value.int IntKind.u32 773529912, Value.int IntKind.u32 1294757372, Value.int IntKind.u32 1396182291, Value.int IntKind.u32 1695183700, Value.int IntKind.u32 1986661051, Value.int IntKind.u32 2177026350, Value.int IntKind.u32 2456956037, Value.int IntKind.u32 2730485921, Value.int IntKind.u32 2820302411, Value.int IntKind.u32 3259730800, Value.int IntKind.u32 3345764771, Value.int IntKind.u32 3516065817, Value.int IntKind.u32 3600352804, Value.int IntKind.u32 4094571909, Value.int IntKind.u32 275423344, Value.int IntKind.u32 430227734, Value.int IntKind.u32 506948616, Value.int IntKind.u32 659060556, Value.int IntKind.u32 883997877, Value.int IntKind.u32 958139571, Value.int IntKind.u32 1322822218, Value.int IntKind.u32 1537002063, Value.int IntKind.u32 1747873779, Value.int IntKind.u32 1955562222, Value.int IntKind.u32 2024104815, Value.int IntKind.u32 2227730452, Value.int IntKind.u32 2361852424, Value.int IntKind.u32 2428436474, Value.int IntKind.u32 2756734187, Value.int IntKind.u32 3204031479, Value.int IntKind.u32 3329325298] = kts.map wv := by kernel_rfl
theorem lit_get {l : List Value} {m : List UInt32} (h : l = m.map wv) (k : Nat) (hk : k < l.length) : l[k] = wv (m.getD k 0) := by
  subst h
  have hk' : k < m.length := by simpa using hk
  simp [List.getElem?_eq_getElem hk']
theorem out_tab (l : List UInt32) (i : Int) (h : i < 0 ∨ (l.length : Int) ≤ i) : tab l i = 0 := by
  unfold tab
  by_cases h0 : i < 0
  · rw [if_pos h0]
  · rw [if_neg h0, List.getD_eq_getElem?_getD, List.getElem?_eq_none (by omega)]
    rfl

set_option maxRecDepth 100000 in
set_option maxHeartbeats 400000 in
theorem refBegin_any (i : Int) (w : World) :
    Calls Tryd.prog 12 #[.int .i64 i] w fun e w' => e = .returned (wv (tab hbs i)) ∧ Below w.heap.size w w' := by
  by_cases h0 : i < 0
  · rw [out_tab hbs i (.inl h0)]
    go_enter Tryd.func12, Tryd.ntmps12
    go_wp2
    go_ret
    exact ⟨rfl, Below.refl _ _⟩
  · by_cases h1 : 7 < i
    · rw [out_tab hbs i (.inr (show (8 : Int) ≤ i by omega))]
      go_enter Tryd.func12, Tryd.ntmps12
      go_wp2
      go_ret
      exact ⟨rfl, Below.refl _ _⟩
    · obtain ⟨k, rfl⟩ : ∃ k : Nat, i = (k : Int) := ⟨i.toNat, by omega⟩
      have hk : k < 8 := by omega
      have hk' : (k : Int) < 8 := by omega
      have hk0 : (0 : Int) ≤ (k : Int) := by omega
      rw [tab_in]
      go_enter Tryd.func12, Tryd.ntmps12
      go_wp2
      go_ret
      exact ⟨congrArg Ending.returned (lit_get lit_hbs k hk), (Below.refl _ _).alloc (Nat.le_refl _) _⟩
set_option maxRecDepth 100000 in
set_option maxHeartbeats 400000 in
theorem refRound_any (i : Int) (w : World) :
    Calls Tryd.prog 10 #[.int .i64 i] w fun e w' => e = .returned (wv (tab kts i)) ∧ Below w.heap.size w w' := by
  by_cases h0 : i < 0
  · rw [out_tab kts i (.inl h0)]
    go_enter Tryd.func10, Tryd.ntmps10
    go_wp2
    go_ret
    exact ⟨rfl, Below.refl _ _⟩
  · by_cases h1 : 63 < i
    · rw [out_tab kts i (.inr (show (64 : Int) ≤ i by omega))]
      go_enter Tryd.func10, Tryd.ntmps10
      go_wp2
      go_ret
      exact ⟨rfl, Below.refl _ _⟩
    · obtain ⟨k, rfl⟩ : ∃ k : Nat, i = (k : Int) := ⟨i.toNat, by omega⟩
      have hk : k < 64 := by omega
      have hk' : (k : Int) < 64 := by omega
      have hk0 : (0 : Int) ≤ (k : Int) := by omega
      rw [tab_in]
      go_enter Tryd.func10, Tryd.ntmps10
      go_wp2
      go_ret
      exact ⟨congrArg Ending.returned (lit_get lit_kts k hk), (Below.refl _ _).alloc (Nat.le_refl _) _⟩
end Go.Proofs.YtbfemhhmijlmlaaDoor
