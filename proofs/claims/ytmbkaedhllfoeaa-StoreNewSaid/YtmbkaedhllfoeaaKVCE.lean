/-
 Pages that lie apart from a device: what is done to the device leaves them. The contracts of the store's write and read.; The contract of the store's read: so many sectors, each in new memory.
-/
import Derived.Test.YtmbkaedhllfoeaaKVB
import Derived.Test.YtmbkaedhllfoeaaKVCA
import Derived.Test.YtmbkaedhllfoeaaKVCD
set_option linter.unusedVariables false
namespace Go.Proofs.Ytmbkaedhllfoeaa
open Go.RowKit Go.Rst Go.Dv Go.Str
def PN (w : World) (base : Nat) (v : Value) (ps : List (List UInt8)) : Prop :=
 ∃ A c, v = .slice A ps.length c ∧ ps.length ≤ c ∧ c ≤ maxLen ∧ (ps = [] ∨ ∃ b off, A = some ⟨b, off, none⟩ ∧ base ≤ b ∧ b < w.heap.size ∧ ∀ j (h : j < ps.length), ∃ u, w.cell? ⟨b, off + j, none⟩ = some u ∧ RB w u ps[j] ∧ (ps[j] ≠ [] → ∀ q, u.ownBlock = some q → base ≤ q ∧ q < w.heap.size))
theorem PN.rp {w : World} {base : Nat} {v : Value} {ps : List (List UInt8)} (h : PN w base v ps) : RP w v ps := by
 obtain ⟨A, c, rfl, h1, h2, h3⟩ := h
 refine ⟨A, c, rfl, h1, h2, h3.imp id fun ⟨b, off, e, _, hb, hc⟩ => ⟨b, off, e, hb, fun j hj => ?_⟩⟩
 obtain ⟨u, a1, a2, _⟩ := hc j hj
 exact ⟨u, a1, a2⟩
theorem PN.fr {D : Nat → Prop} {w w' : World} {base : Nat} {v : Value} {ps : List (List UInt8)} (h : PN w base v ps) (hf : Fr D w w') (hD : ∀ k, D k → k < base) : PN w' base v ps := by
 obtain ⟨A, c, rfl, h1, h2, h3⟩ := h
 refine ⟨A, c, rfl, h1, h2, h3.imp id fun ⟨b, off, e, hb0, hb, hc⟩ => ⟨b, off, e, hb0, Nat.lt_of_lt_of_le hb hf.size, fun j hj => ?_⟩⟩
 obtain ⟨u, a1, a2, a3⟩ := hc j hj
 have e1 := hf.block b hb (fun hd => by have := hD b hd; omega)
 refine ⟨u, (World.cell?_of_block (a := ⟨b, off + j, none⟩) e1).trans a1, RB.fr a2 hf (fun hl q hq hd => by have := hD q hd; have := (a3 hl q hq).1; omega), fun hl q hq => ⟨(a3 hl q hq).1, Nat.lt_of_lt_of_le (a3 hl q hq).2 hf.size⟩⟩
theorem PN.below {w w' : World} {base : Nat} {v : Value} {ps : List (List UInt8)} (h : PN w base v ps) (hb : Below w.heap.size w w') : PN w' base v ps :=
 h.fr (D := fun _ => False) ⟨hb.os, hb.tape, hb.output, hb.size, fun k hk _ => hb.block k hk⟩ (fun _ h => h.elim)
theorem PN.base_ {w : World} {base base' : Nat} {v : Value} {ps : List (List UInt8)} (h : PN w base v ps) (hb : base' ≤ base) : PN w base' v ps := by
 obtain ⟨A, c, rfl, h1, h2, h3⟩ := h
 refine ⟨A, c, rfl, h1, h2, h3.imp id fun ⟨b, off, e, hb0, hb1, hc⟩ => ⟨b, off, e, by omega, hb1, fun j hj => ?_⟩⟩
 obtain ⟨u, a1, a2, a3⟩ := hc j hj
 exact ⟨u, a1, a2, fun hl q hq => by have := a3 hl q hq; omega⟩
theorem pn_nil (w : World) (base : Nat) : PN w base (.slice none 0 0) [] := ⟨none, 0, rfl, Nat.le_refl _, Nat.zero_le _, .inl rfl⟩
theorem pn_at {w : World} {base : Nat} {A : Option Addr} {n c : Nat} {ps : List (List UInt8)} (h : PN w base (.slice A n c) ps) {k : Nat} (hk : k < ps.length) :
  ∃ b off u, A = some ⟨b, off, none⟩ ∧ w.cell? ⟨b, off + k, none⟩ = some u ∧ RB w u ps[k] ∧ (ps[k] ≠ [] → ∀ q, u.ownBlock = some q → base ≤ q ∧ q < w.heap.size) := by
 obtain ⟨A', c', he, _, _, h3⟩ := h
 injection he with e1 _ _
 subst e1
 rcases h3 with rfl | ⟨b, off, rfl, _, hb, hc⟩
 ·simp at hk
 ·obtain ⟨u, h1, h2, h3⟩ := hc k hk
  exact ⟨b, off, u, rfl, h1, h2, h3⟩
theorem OP.pn {e eP : TypeId} {w : World} {base : Nat} {v : Value} {ps : List (List UInt8)} (h : OP e eP w base v ps) : PN w base v ps := by
 obtain ⟨us, rfl, ho, hf⟩ := h
 rcases ho.2 with ⟨rfl, h0⟩ | ⟨g, cap, cur, rfl, hb, hg, hnc, hcm, hcs, ht⟩
 ·have : us = [] := List.eq_nil_of_length_eq_zero h0
  subst this
  exact pn_nil w base
 ·refine ⟨some ⟨g, 0, none⟩, cap, by rw [List.length_map], by rw [List.length_map]; exact hnc, hcm, .inr ⟨g, 0, rfl, hb, (Array.getElem?_eq_some_iff.1 hg).1, fun j hj => ?_⟩⟩
  rw [List.length_map] at hj
  have hc := ho.cells (g := g) rfl j us[j].2 (by simp [hj])
  rw [Addr.add_lit] at hc
  have hfb := hf us[j] (List.getElem_mem hj)
  refine ⟨us[j].2, hc, by simpa using hfb.rb, fun _ q hq => ?_⟩
  rcases hfb with ⟨h1, _⟩ | ⟨g', c', cur', fr', h1, h2, h3, _⟩
  ·rw [h1] at hq; simp [Value.ownBlock] at hq
  ·rw [h1] at hq
   simp [Value.ownBlock] at hq
   subst hq
   exact ⟨h2, (Array.getElem?_eq_some_iff.1 h3).1⟩
def writeL (s : Sim) (at_ : Nat) : List (List UInt8) → Nat → Sim
 | _, 0 => s
 | ps, k + 1 => (writeL s at_ ps k).write ((at_ + k : Nat) : Int) (ps.getD k [])
theorem write_loose (s : Sim) (i : Int) (b : List UInt8) : (s.write i b).loose.length ≤ s.loose.length + 1 := by
 unfold Sim.write
 split
 ·simp [Sim.put]
 ·omega
theorem writeL_loose (s : Sim) (at_ : Nat) (ps : List (List UInt8)) : ∀ k, (writeL s at_ ps k).loose.length ≤ s.loose.length + k
 | 0 => Nat.le_refl _
 | k + 1 => by
  have := writeL_loose s at_ ps k
  have := write_loose (writeL s at_ ps k) ((at_ + k : Nat) : Int) (ps.getD k [])
  show ((writeL s at_ ps k).write _ _).loose.length ≤ _
  omega
theorem write_firm (s : Sim) (i : Int) (b : List UInt8) : (s.write i b).firm = s.firm := by
 unfold Sim.write
 split
 ·rfl
 ·rfl
theorem writeL_firm (s : Sim) (at_ : Nat) (ps : List (List UInt8)) : ∀ k, (writeL s at_ ps k).firm = s.firm
 | 0 => rfl
 | k + 1 => (write_firm _ _ _).trans (writeL_firm s at_ ps k)
theorem dev_ptr {D : Nat → Prop} {w : World} {v : Value} {s : Sim} (h : Dev D w v s) : ∃ g, v = .pointer (some ⟨g, 0, none⟩) := by
 obtain ⟨y, h1, _⟩ := h
 exact ⟨y.g, h1⟩
set_option maxRecDepth 100000 in
set_option maxHeartbeats 1000000 in
theorem wr_any {D : Nat → Prop} {w : World} {v : Value} {s : Sim} (at_ : Nat) (pv : Value) (ps : List (List UInt8)) (base : Nat) (h : Dev D w v s) (hD : ∀ k, D k → k < base) (hb : base ≤ w.heap.size) (hp : PN w base pv ps) (hl : s.loose.length + ps.length < 100000) (ha : at_ ≤ 100000) :
  Calls Try.prog 19 #[dv v, .int .i64 (at_ : Int), pv] w fun e w' => e = .returned (.tuple #[]) ∧ Did D w v (writeL s at_ ps ps.length) w' := by
 have H := Lib.hid h
 have HP := Lib.hid hp
 have HD := Lib.hid hD
 have HB := Lib.hid hb
 obtain ⟨g, rfl⟩ := dev_ptr h
 obtain ⟨A, c, rfl, hc1, hc2, _⟩ := hp
 unfold maxLen at hc2
 have hlt := h.lt
 have HLT := Lib.hid hlt
 clear h hD hb hlt
 go_enter Try.func19, Try.ntmps19
 go_wp2
 go_loopw [10] (fun i wr => ∃ k : Nat, k ≤ ps.length ∧ i = .int .i64 k ∧ Did D w (.pointer (some ⟨g, 0, none⟩)) (writeL s at_ ps k) wr) (fun i _ => ps.length - (intOf i).toNat)
 case atStart => exact ⟨0, Nat.zero_le _, rfl, Did.same H.out (Fr.refl _ _)⟩
 case round =>
  obtain ⟨k, hk, rfl, hdid⟩ := hrel
  have HDID := Lib.hid hdid
  clear hdid
  by_cases hlt : k < ps.length
  ·obtain ⟨E, hE, hF, hEk⟩ := HDID.out
   obtain ⟨b, off, u, rfl, hu, hru, hq⟩ := pn_at (HP.out.fr hF HD.out) hlt
   have hgd : ps.getD k [] = ps[k] := by rw [List.getD_eq_getElem?_getD, List.getElem?_eq_getElem hlt]; rfl
   have hcall := write_any ((at_ + k : Nat) : Int) u (ps.getD k []) hE (by rw [hgd]; exact hru) (fun hne q hqq hd => by
    rw [hgd] at hne
    have h1 := hq hne q hqq
    have hx := HP.out
    obtain ⟨b', off', u', e', hu', _, hq'⟩ := pn_at hx hlt
    injection e' with e'; injection e' with e1 e2
    subst e1; subst e2
    have huu : u' = u := by
     have hbb : b < w.heap.size := by
      obtain ⟨A2, c2, he2, _, _, h32⟩ := hx
      rcases h32 with h32 | ⟨b2, o2, he3, _, hb2, _⟩
      ·rw [h32] at hlt; simp at hlt
      ·injection he2 with he2 _ _; rw [← he2] at he3; injection he3 with he3; injection he3 with he3 _; omega
     have e9 := hF.block b hbb (fun hd9 => by
      have := HD.out b hd9
      obtain ⟨A2, c2, he2, _, _, h32⟩ := hx
      rcases h32 with h32 | ⟨b2, o2, he3, hb3, hb2, _⟩
      ·rw [h32] at hlt; simp at hlt
      ·injection he2 with he2 _ _; rw [← he2] at he3; injection he3 with he3; injection he3 with he3 _; omega)
     have := (World.cell?_of_block (a := ⟨b, off + k, none⟩) e9).symm.trans hu
     rw [hu'] at this
     injection this
    subst huu
    have h2 := hq' hne q hqq
    rcases hEk q hd with h3 | h3
    ·have := HD.out q h3; omega
    ·omega) (by have := writeL_loose s at_ ps k; omega)
   have HCALL := Lib.hid hcall
   have HF := Lib.hid hF
   have HEk := Lib.hid hEk
   clear hcall hq hru hE hF hEk hgd
   go_wp2_with fail
   go_at_call 118
   refine HCALL.out.mono ?_
   rintro e w1 ⟨rfl, E1, hE1, hF1, hEk1⟩
   have HD1 := Lib.hid (show Did D w (.pointer (some ⟨g, 0, none⟩)) (writeL s at_ ps (k + 1)) w1 from ⟨E1, hE1, HF.out.trans hF1 HEk.out, fun q hq => by
    rcases hEk1 q hq with h1 | h1
    ·exact HEk.out q h1
    ·exact .inr (Nat.le_trans HF.out.size h1)⟩)
   clear hE1 hF1 hEk1
   go_wp2
   go_roundw
   case rel => exact ⟨k + 1, by omega, by go_num, HD1.out⟩
   case measure => simp [intOf]; omega
  ·have hkk : k = ps.length := by omega
   subst hkk
   go_wp2
   refine bodyPost_end (results_none rfl _ _ _) rfl ?_
   exact ⟨rfl, HDID.out⟩
end Go.Proofs.Ytmbkaedhllfoeaa
namespace Go.Proofs.Ytmbkaedhllfoeaa
open Go.RowKit Go.Rst Go.Dv Go.Str
def secsL (s : Sim) (at_ n : Nat) : List (List UInt8) := (List.range n).map fun i => s.read (at_ + i)
theorem secsL_succ (s : Sim) (at_ n : Nat) : secsL s at_ (n + 1) = secsL s at_ n ++ [s.read (at_ + n)] := by
 unfold secsL; rw [List.range_succ, List.map_append]; rfl
theorem secsL_len (s : Sim) (at_ n : Nat) : (secsL s at_ n).length = n := by simp [secsL]
set_option maxRecDepth 100000 in
set_option maxHeartbeats 1000000 in
theorem rd_any {D : Nat → Prop} {w : World} {v : Value} {s : Sim} (at_ n : Nat) (h : Dev D w v s) (hr : at_ + n ≤ s.firm.length) :
  Calls Try.prog 26 #[dv v, .int .i64 (at_ : Int), .int .i64 (n : Int)] w fun e w' => ∃ pv, e = .returned pv ∧ OP 88 22 w' w.heap.size pv (secsL s at_ n) ∧ Below w.heap.size w w' := by
 have H := Lib.hid h
 have HR := Lib.hid hr
 have HN := h.ok.n
 obtain ⟨g, rfl⟩ := dev_ptr h
 have hat : at_ ≤ 4096 := by omega
 have hn4 : n ≤ 4096 := by omega
 clear h hr HN
 go_enter Try.func26, Try.ntmps26
 go_wp2
 go_loopw [7, 12] (fun lv i wr => ∃ k : Nat, k ≤ n ∧ i = .int .i64 k ∧ OP 88 22 wr w.heap.size lv (secsL s at_ k) ∧ Below w.heap.size w wr) (fun _ i _ => n - (intOf i).toNat)
 case atStart => exact ⟨0, Nat.zero_le _, rfl, OP.nil_ _ _ _ _, Below.refl _ _⟩
 case round =>
  obtain ⟨k, hk, rfl, hop, hbel⟩ := hrel
  have HOP := Lib.hid hop
  have HBEL := Lib.hid hbel
  obtain ⟨A, c, rfl, _, _⟩ := hop.shape
  clear hop hbel
  by_cases hlt : k < n
  ·have hcall := read_any (at_ + k) (H.out.below HBEL.out) (by have := HR.out; omega)
   rw [show ((at_ + k : Nat) : Int) = (at_ : Int) + (k : Int) by omega] at hcall
   have HC := Lib.hid hcall
   clear hcall
   go_wp2_with fail
   go_at_call 117
   refine HC.out.mono ?_
   rintro e w1 ⟨u, rfl, _, hfb, _, hb1⟩
   have HBB := Lib.hid (HBEL.out.trans (hb1.mono HBEL.out.size))
   have hu1 := fb_one hfb
   obtain ⟨Au, cu, rfl⟩ := hfb.shape
   have hb6 := (Below.refl w1.heap.size w1).alloc (Nat.le_refl _) (Obj.cells #[.slice Au (s.read (at_ + k)).length cu] 22)
   have HBB6 := Lib.hid (HBB.out.trans (hb6.mono HBB.out.size))
   have HFB := Lib.hid ((hfb.base_ HBEL.out.size).below (hb6.mono (Nat.le_refl _)))
   obtain ⟨us, hus, ho, hf⟩ := HOP.out.below (hb1.trans (hb6.mono hb1.size))
   have HUL := Lib.hid (show us.length = k by have h := congrArg List.length hus; rw [List.length_map, secsL_len] at h; exact h)
   rw [secsL_len]
   rw [HUL.out, secsL_len] at ho
   have HO := Lib.hid ho
   have HF := Lib.hid hf
   have HUS := Lib.hid hus
   have HSN := Lib.hid (src_one w1 Try.underlying35 22 (.slice Au (s.read (at_ + k)).length cu) hu1)
   clear ho hf hus hfb hb1 hb6
   go_wp2_with (at_builtin; refine wpList_own rfl (.tmp 23) (.tmp 25) 35 35 rfl w.heap.size 22 (.slice none 0 0) 1 24 Try.underlying35 info22 rfl rfl HO.out rfl HSN.out HBB6.out (Nat.le_refl _) ?_ ?_ ?_ ?_)
   ·unfold maxLen; omega
   ·omega
   ·exact HBB6.out.size
   intro v5 w5 ho5 hb5 hg5
   have hrf := OP.push (e := 88) (eP := 22) (by decide) (by rw [HUL.out]; exact HO.out) HF.out HFB.out (by rw [HUL.out]; exact ho5) hg5
   rw [HUS.out, ← secsL_succ] at hrf
   have HRF := Lib.hid hrf
   have HB5 := Lib.hid hb5
   clear ho5 hg5 hrf hb5
   go_wp2
   go_roundw
   case rel => exact ⟨k + 1, by omega, by go_num, HRF.out, HB5.out⟩
   case measure => simp [intOf]; omega
  ·have hkk : k = n := by omega
   subst hkk
   go_wp2
   go_ret
   exact ⟨_, rfl, HOP.out, HBEL.out⟩
end Go.Proofs.Ytmbkaedhllfoeaa
