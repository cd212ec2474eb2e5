/-
 The contract of the law's RowList: rows of the call's own, as the bytes say, for every slice of bytes.; The contract of page.slotted: the rows that stand where the slots say.
-/
import Derived.Test.YtmbkaedhllfoeaaKVA
import Derived.Test.YtmbkaedhllfoeaaKVB
import Derived.Test.YtmbkaedhllfoeaaKVD
set_option linter.unusedVariables false
namespace Go.Proofs.Ytmbkaedhllfoeaa
open Go.RowKit Go.Rst
theorem own_blk {w : World} {base g n : Nat} {e : TypeId} {xs ys : List Value} (h : w.ownsRow base e 1 (.slice (some ⟨g, 0, none⟩) n n) n xs) (hx : xs = ys) : Blk w g e ys.toArray := by
 subst hx
 rcases h.2 with ⟨h0, _⟩ | ⟨g', cap, cur, hv, _, hg, _, _, hs, ht⟩
 ·cases h0
 ·injection hv with h1 _ h3
  injection h1 with h1
  injection h1 with h1 _ _
  subst h1
  subst h3
  have : cur.toList = xs := by rw [← ht, List.take_of_length_le (by rw [Array.length_toList]; omega)]
  unfold Blk
  rw [hg, ← this]
theorem fb_lit {w : World} {base : Nat} {e : TypeId} {l : List UInt8} {cs : Array Value} {n : Nat} (hb : base ≤ w.heap.size) (hcs : cs = (bvs l).toArray) (hn : n = l.length) (hm : n ≤ 1000000) :
  FB e (w.alloc (.cells cs e)) base (.slice (some ⟨w.heap.size, 0, none⟩) n n) l := by
 subst hcs
 subst hn
 exact .inr ⟨w.heap.size, l.length, _, (0, 0), rfl, hb, heap_alloc_new w _, Nat.le_refl _, by unfold maxLen; omega, by rw [List.take_of_length_le (by simp [bvs_length])]⟩
theorem gen_allocD {K : World → Prop} {W : World} {o : Obj} (h : ∀ w', w' = (W.alloc o).drew → Below W.heap.size W w' → K w') : K (W.alloc o).drew := h _ rfl ((Below.refl _ _).alloc (Nat.le_refl _) _).drew
theorem FB.drew {e : TypeId} {w : World} {base : Nat} {v : Value} {l : List UInt8} (h : FB e w base v l) : FB e w.drew base v l := h
theorem gen_alloc {K : World → Prop} {W : World} {o : Obj} (h : ∀ w', w' = W.alloc o → Below W.heap.size W w' → K w') : K (W.alloc o) := h _ rfl ((Below.refl _ _).alloc (Nat.le_refl _) _)
theorem madeL (n : Nat) : (madeCells #[Value.int IntKind.u8 0] n).toList = bvs (List.replicate n 0) := by
 rw [toList_madeCells_one]
 simp [bvs, bv]
def fill (y : UInt8) (m : Nat) : List UInt8 := (List.range m).map fun j => y + UInt8.ofNat j
def GivesRL (w : World) (rs : List (ByteArray × List UInt8)) (e : Ending) (w' : World) : Prop := ∃ u, e = .returned u ∧ OR 5 47 w' w.heap.size u rs ∧ Below w.heap.size w w'
theorem GivesRL.mk {w w' : World} {rs : List (ByteArray × List UInt8)} {u : Value} (h : OR 5 47 w' w.heap.size u rs) (hb : Below w.heap.size w w') : GivesRL w rs (.returned u) w' := ⟨u, rfl, h, hb⟩
end Go.Proofs.Ytmbkaedhllfoeaa
namespace Go.Proofs.Ytmbkaedhllfoeaa
open Go.RowKit Go.Rst Go.Pg Go.Crc
def GivesSl (w : World) (r : Option (List Rw)) (e : Ending) (w' : World) : Prop :=
 ∃ v, e = .returned (.tuple #[v, .bool r.isSome]) ∧ OR 5 47 w' w.heap.size v (r.getD []) ∧ Below w.heap.size w w'
theorem GivesSl.none_ {w w' : World} {r : Option (List Rw)} (h : r = none) (hb : Below w.heap.size w w') : GivesSl w r (.returned (.tuple #[.slice none 0 0, .bool false])) w' := by
 subst h
 exact ⟨_, rfl, OR.nil_ _ _ _ _, hb⟩
theorem GivesSl.some_ {w w' : World} {r : Option (List Rw)} {rs : List Rw} {v : Value} (h : r = some rs) (ho : OR 5 47 w' w.heap.size v rs) (hb : Below w.heap.size w w') : GivesSl w r (.returned (.tuple #[v, .bool true])) w' := by
 subst h
 exact ⟨_, rfl, ho, hb⟩
theorem slotsF_step (b : List UInt8) {f n k : Nat} (h : f = n - k) (hk : k < n) (acc : List Rw) : slotsF b f k acc = match slotRow b (b.getD (2 + k) 0).toNat with
  | none => none
  | some r => slotsF b (n - (k + 1)) (k + 1) (acc ++ [r]) := by
 rw [h, show n - k = (n - (k + 1)) + 1 from by omega, slotsF]
 rfl
set_option maxRecDepth 100000 in
set_option maxHeartbeats 4000000 in
theorem slotted_any (v : Value) (l : List UInt8) (hl : l.length = 256) (w : World) (hv : RB w v l) :
  Calls Try.prog 71 #[v] w (GivesSl w (slotted l)) := by
 have HV := Lib.hid hv
 obtain ⟨A, c, rfl, hlc, hc, _⟩ := hv
 unfold maxLen at hc
 obtain ⟨b, off, rfl, hb, hc1⟩ := rb_cell HV.out (k := 1) (by omega)
 have hR : slotted l = if 250 < (l.getD 1 0).toNat then none else slotsF l (l.getD 1 0).toNat 0 [] := rfl
 have hg1 : l.getD 1 0 = l[1]'(by omega) := by rw [List.getD_eq_getElem?_getD, List.getElem?_eq_getElem (by omega)]; rfl
 rw [hg1] at hR
 obtain ⟨x1, hx1⟩ : ∃ x1, x1 = l[1]'(by omega) := ⟨_, rfl⟩
 rw [← hx1] at hR hc1
 unfold bv at hc1
 have hx1b := x1.toNat_lt
 obtain ⟨n, hn⟩ : ∃ n, n = x1.toNat := ⟨_, rfl⟩
 rw [← hn] at hR hc1 hx1b
 have hcap : (256 : Int) ≤ (c : Int) := by omega
 have hln : (l.length : Int) = 256 := by omega
 have HL := Lib.hid hl
 clear hx1 hn hg1 hl
 by_cases hbig : 250 < n
 ·rw [if_pos hbig] at hR
  have HR := Lib.hid hR
  have hbig' : (250 : Int) < (n : Int) := by omega
  clear hR
  go_enter Try.func71, Try.ntmps71
  go_wp2
  go_ret2
  exact GivesSl.none_ HR.out (Below.refl _ _)
 ·rw [if_neg hbig] at hR
  have HR := Lib.hid hR
  have hbig' : (n : Int) ≤ 250 := by omega
  obtain ⟨D, hD⟩ : ∃ D, D = c - 2 := ⟨_, rfl⟩
  have hDn : n ≤ D := by omega
  have hcD : c = D + 2 := by omega
  subst hcD
  clear hR hD
  go_enter Try.func71, Try.ntmps71
  go_wp2
  rw [Nat.add_sub_cancel_left]
  go_loopw [5, 24] (fun rv i wr => ∃ (k : Nat) (acc : List Rw), k ≤ n ∧ i = .int .i64 k ∧ acc.length = k ∧ OR 5 47 wr w.heap.size rv acc ∧ Below w.heap.size w wr ∧ slotsF l (n - k) k acc = slotsF l n 0 [])
   (fun _ i _ => n - (intOf i).toNat)
  case atStart => exact ⟨0, [], Nat.zero_le _, rfl, rfl, OR.nil_ _ _ _ _, Below.refl _ _, rfl⟩
  case round =>
   obtain ⟨k, acc, hk, rfl, hal, hor, hbel, heq⟩ := hrel
   have HE := Lib.hid heq
   have HAL := Lib.hid hal
   have hsz := hbel.size
   clear heq hal
   by_cases hlt : k < n
   ·have hE := HE.out
    rw [slotsF_step l rfl hlt] at hE
    obtain ⟨_, _, he2, _, hs⟩ := rb_cell HV.out (k := 2 + k) (by have := HL.out; omega)
    injection he2 with he2
    injection he2 with e1 e2 _
    subst e1
    subst e2
    have hg2 : l.getD (2 + k) 0 = l[2 + k]'(by have := HL.out; omega) := by rw [List.getD_eq_getElem?_getD, List.getElem?_eq_getElem (by have := HL.out; omega)]; rfl
    rw [hg2] at hE
    obtain ⟨x, hx⟩ : ∃ x, x = l[2 + k]'(by have := HL.out; omega) := ⟨_, rfl⟩
    rw [← hx] at hE hs
    unfold bv at hs
    have hxb := x.toNat_lt
    obtain ⟨s, hs1⟩ : ∃ s, s = x.toNat := ⟨_, rfl⟩
    rw [← hs1] at hE hs hxb
    have hs2 := (hbel.cell (p := ⟨b, off + (2 + k), none⟩) hb).trans hs
    rw [show off + (2 + k) = off + 2 + k from by omega] at hs2
    unfold slotRow at hE
    have c1 := fun W hW => getText_any (.slice (some ⟨b, off, none⟩) l.length (D + 2)) l (s : Int) 30 W hW
    have s1 := getText_spec l (s : Int) 30
    obtain ⟨tk, q1, e1, ht1⟩ : ∃ a b c, getText l (s : Int) 30 = (a, b, c) := ⟨_, _, _, rfl⟩
    rw [ht1] at hE c1 s1
    simp only [] at hE s1 c1
    have c2 := fun W hW => getText_any (.slice (some ⟨b, off, none⟩) l.length (D + 2)) l q1 150 W hW
    have s2 := getText_spec l q1 150
    obtain ⟨tv, q2, e2, ht2⟩ : ∃ a b c, getText l q1 150 = (a, b, c) := ⟨_, _, _, rfl⟩
    rw [ht2] at hE c2 s2
    simp only [] at hE s2 c2
    have C1 := Lib.hid c1
    have C2 := Lib.hid c2
    have HVr := Lib.hid (HV.out.below hbel)
    clear c1 c2 ht1 ht2 HE hx hs1 hg2 hs
    by_cases he1 : e1 = 0
    ·subst he1
     by_cases he2 : e2 = 0
     ·subst he2
      have htl : tv.length ≤ 150 := by omega
      simp only [ne_eq, not_true_eq_false, if_false] at hE
      have HE := Lib.hid hE
      clear s1 s2 hE
      go_wp2_with fail
      refine (C1.out _ HVr.out).mono ?_
      rintro x w2 ⟨rfl, rfl⟩
      go_wp2_with fail
      refine (C2.out _ HVr.out).mono ?_
      rintro x w2 ⟨rfl, rfl⟩
      go_wp2_with (refine wpList_bytes rfl (.tmp 49) 9 22 5 rfl Try.underlying9 Try.underlying22 Try.underlying5 (by rfl) ?_ ?_)
      ·unfold maxLen; omega
      intro g c w2 hfb hb2
      have hor2 := (hor.below hb2).alloc (Obj.cells #[.string ⟨tk.toArray⟩, .slice (some ⟨g, 0, none⟩) tv.length c] 47)
      have hfb2 := (hfb.base_ (base' := w.heap.size) hsz).below ((Below.refl _ _).alloc (Nat.le_refl _) (Obj.cells #[.string ⟨tk.toArray⟩, .slice (some ⟨g, 0, none⟩) tv.length c] 47))
      have hbel2 : Below w.heap.size w w2 := hbel.trans (hb2.mono hsz)
      have hbel3 := hbel2.alloc hbel2.size (Obj.cells #[.string ⟨tk.toArray⟩, .slice (some ⟨g, 0, none⟩) tv.length c] 47)
      obtain ⟨us, hus, ho, hfs⟩ := hor2
      have HLU := Lib.hid (show us.length = acc.length by rw [← hus, List.length_map])
      have HUS := Lib.hid hus
      have hsz2 := hbel2.size
      clear hor hfb hbel hus hb2 hbel2
      go_wp2_with (at_builtin; refine wpList_own rfl (.tmp 47) (.tmp 52) 40 40 rfl w.heap.size 47 (.agg #[.string ⟨#[]⟩, .slice none 0 0]) 2 40 Try.underlying40 info47 rfl rfl ho rfl (src_two _ (by simp) Try.underlying40 47 _ _ rfl rfl) hbel3 (Nat.le_refl _) ?_ ?_ ?_ ?_)
      ·have := HLU.out; have := HAL.out; unfold maxLen; omega
      ·have := HLU.out; have := HAL.out; omega
      ·simp; omega
      intro v' w4 ho' hb4 hg4
      have hor4 := OR.push (by decide) ho hfs hfb2 ho' hg4
      rw [HUS.out] at hor4
      have HO4 := Lib.hid hor4
      have HB4 := Lib.hid hb4
      clear ho hfs hfb2 ho' hg4 hor4 hb4
      go_wp2
      go_roundw
      case rel => exact ⟨k + 1, _, by omega, by go_num, by rw [List.length_append, HAL.out]; rfl, HO4.out, HB4.out, HE.out⟩
      case measure => simp [intOf]; omega
     ·have hne : (e2 != 0) = true := by simpa using he2
      have hE2 := Lib.hid (show slotsF l n 0 [] = none by rw [← hE]; simp [he2])
      have HB := Lib.hid hbel
      clear hE s1 s2 he2 hbel
      go_wp2_with fail
      refine (C1.out _ HVr.out).mono ?_
      rintro x w2 ⟨rfl, rfl⟩
      go_wp2_with fail
      refine (C2.out _ HVr.out).mono ?_
      rintro x w2 ⟨rfl, rfl⟩
      go_wp2
      go_ret2
      exact GivesSl.none_ (HR.out.trans hE2.out) HB.out
    ·have hne : (e1 != 0) = true := by simpa using he1
     have hE2 := Lib.hid (show slotsF l n 0 [] = none by rw [← hE]; simp [he1])
     have HB := Lib.hid hbel
     clear hE s1 s2 he1 hbel
     go_wp2_with fail
     refine (C1.out _ HVr.out).mono ?_
     rintro x w2 ⟨rfl, rfl⟩
     go_wp2
     go_ret2
     exact GivesSl.none_ (HR.out.trans hE2.out) HB.out
   ·have e : k = n := by omega
    have hE := HE.out
    rw [e, Nat.sub_self, slotsF] at hE
    have HE2 := Lib.hid hE.symm
    have HB := Lib.hid hbel
    have HO := Lib.hid hor
    clear hE hbel hor HE
    go_wp2
    go_ret2
    exact GivesSl.some_ (HR.out.trans HE2.out) HO.out HB.out
end Go.Proofs.Ytmbkaedhllfoeaa
