/-
  The contract of the device's Crash: those loose writes are firm that are to be kept, whatever the device and the marks (which lie outside it).
-/
import Derived.Test.YtpaahbohbnfibaaForget
import Derived.StillTailTactics
namespace Go.Proofs.Ytpaahbohbnfibaa
open Go.RowKit Go.Rst Go.Dv

/-- Marks that lie in no block of D. -/
def KB (D : Nat → Prop) (w : World) (v : Value) (K : List Bool) : Prop :=
  ∃ A c, v = .slice A K.length c ∧ (K = [] ∨ ∃ b off, A = some ⟨b, off, none⟩ ∧ b < w.heap.size ∧ ¬ D b ∧ ∀ j (h : j < K.length), w.cell? ⟨b, off + j, none⟩ = some (.bool K[j]))
theorem KB.nil_ (D : Nat → Prop) (w : World) : KB D w (.slice none 0 0) [] := ⟨none, 0, rfl, .inl rfl⟩
theorem KB.fr {D E : Nat → Prop} {w w' : World} {v : Value} {K : List Bool} (h : KB D w v K) (hf : Fr E w w') (hE : ∀ k, k < w.heap.size → E k → D k) : KB D w' v K := by
  obtain ⟨A, c, rfl, h1⟩ := h
  refine ⟨A, c, rfl, ?_⟩
  rcases h1 with h1 | ⟨b, off, rfl, hb, hn, hc⟩
  · exact .inl h1
  · exact .inr ⟨b, off, rfl, Nat.lt_of_lt_of_le hb hf.size, hn, fun j hj => (World.cell?_of_block (a := ⟨b, off + j, none⟩) (hf.block b hb (fun he => hn (hE b hb he)))).trans (hc j hj)⟩
theorem KB.other {D E : Nat → Prop} {w : World} {v : Value} {K : List Bool} (h : KB D w v K) (hE : ∀ k, k < w.heap.size → E k → D k) : KB E w v K := by
  obtain ⟨A, c, rfl, h1⟩ := h
  refine ⟨A, c, rfl, ?_⟩
  rcases h1 with h1 | ⟨b, off, rfl, hb, hn, hc⟩
  · exact .inl h1
  · exact .inr ⟨b, off, rfl, hb, fun he => hn (hE b hb he), hc⟩
set_option maxRecDepth 100000 in
set_option maxHeartbeats 1000000 in
theorem crash_raw {D : Nat → Prop} {w : World} {y : Lay} {F : List (List UInt8)} {L : List Wr} {f : Bool} {a b : Nat} (kv : Value) (K : List Bool) (hr : Raw D w y F L (newL F.length L) f a b)
    (hF : ∀ x ∈ F, x.length = 64) (hL : ∀ x ∈ L, x.1 < F.length ∧ x.2.length = 64) (hF4 : F.length ≤ 4096) (hLl : L.length ≤ 100000) (hK : KB D w kv K) :
    Calls Try.prog 14 #[.pointer (some ⟨y.g, 0, none⟩), kv] w fun e w' => e = .returned (.tuple #[]) ∧ Fr D w w' ∧ Raw D w' { y with A := none, c := 0 } (kept F L K L.length) [] (newL F.length []) false a b := by
  have HKB := Lib.hid hK
  obtain ⟨AK, cK, rfl, _⟩ := hK
  have c1 := hr.c1
  obtain ⟨Z, hZ⟩ : ∃ Z, Z = #[Value.int .i64 0] ++ Array.replicate 64 (Value.int .u8 0) := ⟨_, rfl⟩
  have z68 := zero68
  rw [← hZ] at z68
  have HZ := Lib.hid hZ
  have HR := Lib.hid hr
  have HL := Lib.hid hL
  have HFa := Lib.hid hF
  have HF := Lib.hid hF4
  clear hZ hr hL hF hF4
  obtain ⟨nK, hnK⟩ : ∃ nK, nK = K.length := ⟨_, rfl⟩
  rw [← hnK]
  have HnK := Lib.hid hnK
  clear hnK
  go_enter Try.func14, Try.ntmps14
  go_wp2
  go_loopw [13] (fun i wr => ∃ k : Nat, k ≤ L.length ∧ i = .int .i64 k ∧ Raw D wr y (kept F L K k) L (newL F.length L) f a b ∧ Fr D w wr) (fun i _ => L.length - (intOf i).toNat)
  case atStart => exact ⟨0, Nat.zero_le _, rfl, HR.out, Fr.refl _ _⟩
  case round =>
    obtain ⟨k, hk, rfl, hr, hf⟩ := hrel
    clear c1
    by_cases hlt : k < L.length
    · obtain ⟨gL, hA, hn1, hn2, hn3, hat⟩ := hr.looseAt (fun x hx => (HL.out x hx).2) hlt
      have hx := HL.out _ (wat_mem hlt)
      obtain ⟨x, hxe⟩ : ∃ x, x = wat L k := ⟨_, rfl⟩
      rw [← hxe] at hat hx
      have HX := Lib.hid hxe
      have HAt := Lib.hid hat
      have HXl := Lib.hid (show (Try.prog.info? 68).map (·.size) = some (wc x).length by rw [wc_length hx.2]; exact size68)
      have HRr := Lib.hid hr
      have HFr := Lib.hid hf
      have HCs := Lib.hid (show (Try.prog.info? 68).map (·.size) = some (wc x).toArray.size by rw [List.size_toArray, wc_length hx.2]; exact size68)
      have HZC := Lib.hid (show Z.size = (wc x).toArray.size by rw [HZ.out]; simp [wc_length hx.2])
      have HKf := Lib.hid (kept_all K HFa.out (fun x hx => (HL.out x hx).2) k hk)
      have HKl := Lib.hid (kept_length F L K k)
      rw [hA]
      have hA2 := Lib.hid hA
      have H1 := Lib.hid hx
      clear hxe hat hr hA hx
      have hKw := HKB.out.fr hf (fun _ _ h => h)
      rw [← HnK.out] at hKw
      clear hf
      have hcase : (K.getD k false = false ∧ (¬ k < nK ∨ (k < nK ∧ ∃ b off, AK = some ⟨b, off, none⟩ ∧ b < wr.heap.size ∧ wr.cell? ⟨b, off + k, none⟩ = some (.bool false)))) ∨
          (K.getD k false = true ∧ k < nK ∧ ∃ b off, AK = some ⟨b, off, none⟩ ∧ b < wr.heap.size ∧ wr.cell? ⟨b, off + k, none⟩ = some (.bool true)) := by
        obtain ⟨A', c', he, h1⟩ := hKw
        injection he with he _ _
        by_cases hkn : k < nK
        · have hkn2 : k < K.length := by rw [← HnK.out]; exact hkn
          have e : K.getD k false = K[k] := by rw [List.getD_eq_getElem?_getD, List.getElem?_eq_getElem hkn2]; rfl
          rcases h1 with h1 | ⟨b, off, h1, hb, _, hc⟩
          · rw [h1] at hkn2; simp at hkn2
          · have hck := hc k hkn2
            cases hv : K[k] with
            | false => rw [hv] at hck; exact .inl ⟨by rw [e, hv], .inr ⟨hkn, b, off, by rw [he, h1], hb, hck⟩⟩
            | true => rw [hv] at hck; exact .inr ⟨by rw [e, hv], hkn, b, off, by rw [he, h1], hb, hck⟩
        · exact .inl ⟨by rw [List.getD_eq_getElem?_getD, List.getElem?_eq_none (by rw [← HnK.out]; omega)]; rfl, .inl hkn⟩
      clear hKw
      rcases hcase with ⟨hv, hcase⟩ | ⟨hv, hkn, bK, oK, hAK, hbK, hcK⟩
      · have e : kept F L K (k + 1) = kept F L K k := by rw [kept, if_neg (by rw [hv]; decide)]
        have HE := Lib.hid e
        clear e hv
        rcases hcase with hkn | ⟨hkn, bK, oK, hAK, hbK, hcK⟩
        · go_wp2_with (first
            | (refine wpList_load_mid rfl 68 (.tmp 16) rfl gL (k * 65) rfl (wc x) _ HAt.out Try.underlying68 rfl HXl.out ?_)
            | (refine wpList_store_row rfl 68 (.tmp 5) (.tmp 17) rfl wr.heap.size (wc x).toArray rfl rfl 68 Z (heap_alloc_new wr _) HCs.out HZC.out (wc_all x) ?_))
          go_roundw
          case rel =>
            refine ⟨k + 1, by omega, by go_num, ?_, ?_⟩
            · rw [HE.out, World.setRow_alloc_new]; exact HRr.out.alloc _
            · rw [World.setRow_alloc_new]; exact HFr.out.alloc _
          case measure => simp [intOf]; omega
        · subst hAK
          have hb0 : bK < (wr.alloc (Obj.cells Z 68)).heap.size := by simp; omega
          have hcK2 : ((wr.alloc (Obj.cells Z 68)).setRow wr.heap.size (wc x).toArray).cell? ⟨bK, oK + k, none⟩ = some (.bool false) := by
            rw [World.setRow_alloc_new]
            exact (World.cell?_of_block (a := ⟨bK, oK + k, none⟩) (Below.heap_alloc wr _ bK hbK)).trans hcK
          go_wp2_with (first
            | (refine wpList_load_mid rfl 68 (.tmp 16) rfl gL (k * 65) rfl (wc x) _ HAt.out Try.underlying68 rfl HXl.out ?_)
            | (refine wpList_store_row rfl 68 (.tmp 5) (.tmp 17) rfl wr.heap.size (wc x).toArray rfl rfl 68 Z (heap_alloc_new wr _) HCs.out HZC.out (wc_all x) ?_))
          go_roundw
          case rel =>
            refine ⟨k + 1, by omega, by go_num, ?_, ?_⟩
            · rw [HE.out, World.setRow_alloc_new]; exact HRr.out.alloc _
            · rw [World.setRow_alloc_new]; exact HFr.out.alloc _
          case measure => simp [intOf]; omega
      · have e : kept F L K (k + 1) = (kept F L K k).set x.1 x.2 := by rw [kept, if_pos hv, ← HX.out]
        have HE := Lib.hid e
        clear e hv
        subst hAK
        have hcK2 : ((wr.alloc (Obj.cells Z 68)).setRow wr.heap.size (wc x).toArray).cell? ⟨bK, oK + k, none⟩ = some (.bool true) := by
          rw [World.setRow_alloc_new]
          exact (World.cell?_of_block (a := ⟨bK, oK + k, none⟩) (Below.heap_alloc wr _ bK hbK)).trans hcK
        go_wp2_with (first
          | (refine wpList_load_mid rfl 68 (.tmp 16) rfl gL (k * 65) rfl (wc x) _ HAt.out Try.underlying68 rfl HXl.out ?_)
          | (refine wpList_store_row rfl 68 (.tmp 5) (.tmp 17) rfl wr.heap.size (wc x).toArray rfl rfl 68 Z (heap_alloc_new wr _) HCs.out HZC.out (wc_all x) ?_))
        try simp only [Act.put]
        obtain ⟨g3, hg3⟩ : ∃ g3, g3 = wr.heap.size := ⟨_, rfl⟩
        rw [← hg3] at hcK2 ⊢
        obtain ⟨W2, hW2⟩ : ∃ W2, W2 = (wr.alloc (Obj.cells Z 68)).setRow g3 (wc x).toArray := ⟨_, rfl⟩
        rw [← hW2] at hcK2 ⊢
        rw [hg3, World.setRow_alloc_new] at hW2
        have hr2 : Raw D W2 y (kept F L K k) L (newL F.length L) f a b := by rw [hW2]; exact HRr.out.alloc _
        have hb3 : Blk W2 g3 68 (wc x).toArray := by rw [hW2, hg3]; exact heap_alloc_new wr _
        have hx0 : W2.cell? ⟨g3, 0, none⟩ = some (.int .i64 (x.1 : Int)) := hb3.cell 0
        have hx1 : W2.rangeAt g3 1 (bvs x.2) := fun j v hv => by
          rw [hb3.cell, Nat.add_comm, List.getElem?_toArray]
          exact hv
        have hf2 : Fr D w W2 := by rw [hW2]; exact HFr.out.alloc _
        have c0 := hr2.c0
        have hxl : x.1 < (kept F L K k).length := by rw [HKl.out]; exact H1.out.1
        have hx5 : ((x.1 : Nat) : Int) < ((kept F L K k).length : Int) := by omega
        have hx6 : (0 : Int) ≤ ((x.1 : Nat) : Int) := by omega
        have hth := hr2.firmThere HKf.out hxl
        have HTh := Lib.hid hth
        have HR2 := Lib.hid hr2
        have HF2 := Lib.hid hf2
        have HXl2 := Lib.hid hxl
        have HG3 := Lib.hid hg3
        have HX1 := Lib.hid hx1
        have HS66 := Lib.hid (show (Try.prog.info? 66).map (·.size) = some (bvs x.2).length by rw [bvs_length, H1.out.2]; exact size66)
        clear hr2 hf2 hW2 hth z68 hb3 hx1 hg3
        obtain ⟨M, hM⟩ : ∃ M, M = kept F L K k := ⟨_, rfl⟩
        rw [← hM] at c0 hx5
        have HM := Lib.hid hM
        clear hM hxl
        go_still_tail 9, (by kernel_rfl)
        refine still_load_mid rfl 66 (.tmp 34) rfl g3 1 rfl (bvs x.2) _ HX1.out Try.underlying66 rfl HS66.out ?_
        try simp only [Act.put, List.setIfInBounds_toArray, List.set_cons_zero, List.set_cons_succ]
        repeat still_step
        refine wpStill_nil ?_
        go_wp2_with (refine wpList_store_mid rfl 66 (.tmp 36) (.tmp 35) rfl y.gF (x.1 * 64) (bvs x.2).toArray rfl rfl (by rw [List.size_toArray, bvs_length, H1.out.2]; exact HTh.out) (by rw [List.size_toArray]; exact HS66.out) (bvs_all _) ?_)
        go_roundw
        case rel =>
          refine ⟨k + 1, by omega, by go_num, ?_, ?_⟩
          · rw [HE.out]
            exact (HR2.out.same (w' := W2.drew) (fun _ _ => rfl) (Nat.le_refl _)).setFirm HKf.out HXl2.out H1.out.2
          · exact (HF2.out.drew).setCells (.inl HR2.out.dF) _ _
        case measure => simp [intOf]; omega
    · obtain rfl : k = L.length := by omega
      have hr' : Raw D wr y (kept F L K L.length) L (newL (kept F L K L.length).length L) f a b := by rw [kept_length]; exact hr
      have HRr := Lib.hid hr'
      have HFr := Lib.hid hf
      have HKf := Lib.hid (show ∀ x ∈ L, x.1 < (kept F L K L.length).length ∧ x.2.length = 64 by rw [kept_length]; exact HL.out)
      have HK4 := Lib.hid (show (kept F L K L.length).length ≤ 4096 by rw [kept_length]; exact HF.out)
      clear hr hr' hf z68
      go_wp2_with fail
      go_at_call 28
      refine (forget_any HRr.out HKf.out HK4.out hLl).mono ?_
      rintro e w2 ⟨rfl, hf2, hr2⟩
      have fz := hr2.bd.frozen 3
      have c3 := hr2.c3
      rw [kept_length] at hr2
      have HR2 := Lib.hid hr2
      have HF2 := Lib.hid hf2
      clear hr2 hf2
      go_wp2
      go_end0
      refine ⟨rfl, (HFr.out.trans HF2.out (fun _ h => .inl h)).setCell (.inl HRr.out.dg) _, ?_⟩
      exact HR2.out.setFlag false
/-- Crash, of a device in memory. -/
theorem crash_any {D : Nat → Prop} {w : World} {v : Value} {s : Sim} (kv : Value) (K : List Bool) (h : Dev D w v s) (hK : KB D w kv K) (hw : s.nw ≤ 100000) :
    Calls Try.prog 14 #[v, kv] w fun e w' => e = .returned (.tuple #[]) ∧ Fr D w w' ∧ Dev D w' v (s.crash K) := by
  obtain ⟨y, rfl, hr, hok, hf⟩ := h
  refine (crash_raw kv K hr hok.f hok.l hok.n (Nat.le_trans hok.w hw) hK).mono ?_
  rintro e w' ⟨rfl, h1, h2⟩
  refine ⟨rfl, h1, { y with A := none, c := 0 }, rfl, ?_, hok.crash K, fun k hk => by cases hk⟩
  show Raw D w' _ (kept s.firm s.loose K s.loose.length) [] (newL (kept s.firm s.loose K s.loose.length).length []) false s.nw s.nf
  rw [kept_length]
  exact h2
end Go.Proofs.Ytpaahbohbnfibaa
