/-
  The contract of the document's own Build of a tree.
-/
import Derived.Test.YtbacdeogggcbfaaRefLevel
namespace Go.Pg
theorem chunk_len : ∀ (f : Nat) (cs : List (List Rw)) (l : List Rw) (r : List (List Rw)), chunkF f cs l = some r → r.length ≤ cs.length + l.length + (if cs = [] then 1 else 0)
  | 0, cs, l, r, h => by
    rw [chunkF] at h
    injection h with h
    rw [← h]
    omega
  | f + 1, cs, l, r, h => by
    rw [chunkF] at h
    split at h
    · injection h with h
      rw [← h]
      omega
    · split at h
      · cases h
      · rename_i h1 h2
        have := chunk_len f _ _ _ h
        rw [List.length_append, List.length_drop, if_neg (by simp)] at this
        have hle := fitN_le l
        simp only [List.length_cons, List.length_nil] at this
        by_cases hl : l = []
        · subst hl
          have hc : cs = [] := by
            by_cases hc : cs = []
            · exact hc
            · exact (h1 ⟨rfl, hc⟩).elim
          rw [if_pos hc]
          omega
        · have hp : 0 < fitN l := by
            rcases Nat.eq_zero_or_pos (fitN l) with h0 | h0
            · exact (h2 ⟨h0, hl⟩).elim
            · exact h0
          omega
theorem level_len {n : Int} {from_ : Nat} {l : List Rw} {p : List (List UInt8)} {a : List Rw} (h : levelL n from_ l = some (p, a)) : p.length ≤ l.length + 1 ∧ a.length ≤ l.length + 1 := by
  unfold levelL at h
  cases hc : chunks l with
  | none => rw [hc] at h; cases h
  | some cs =>
    rw [hc] at h
    injection h with h
    injection h with h1 h2
    have := chunk_len _ _ _ _ hc
    rw [← h1, ← h2, pages_len, above_len]
    simpa using this
theorem build_step (f n : Nat) (all : List (List UInt8)) (l : List Rw) : buildF (f + 1) n all l = match levelL n all.length l with
    | none => none
    | some (p, a) => if p.length = 1 then some (all ++ p) else buildF f (n + 1) (all ++ p) a := by
  rw [buildF]
  rfl
end Go.Pg
namespace Go.Proofs.Ytbacdeogggcbfaa
open Go.RowKit Go.Rst Go.Pg Go.Crc

def GivesBd (w : World) (r : Option (List (List UInt8))) (e : Ending) (w' : World) : Prop :=
  ∃ p, e = .returned (.tuple #[p, .bool r.isSome]) ∧ OP 5 23 w' w.heap.size p (r.getD []) ∧ Below w.heap.size w w'
theorem GivesBd.none_ {w w' : World} {r : Option (List (List UInt8))} (h : r = none) (hb : Below w.heap.size w w') : GivesBd w r (.returned (.tuple #[.slice none 0 0, .bool false])) w' := by
  subst h
  exact ⟨_, rfl, OP.nil_ _ _ _ _, hb⟩
theorem GivesBd.some_ {w w' : World} {r : Option (List (List UInt8))} {ps : List (List UInt8)} {p : Value} (h : r = some ps) (hp : OP 5 23 w' w.heap.size p ps) (hb : Below w.heap.size w w') :
    GivesBd w r (.returned (.tuple #[p, .bool true])) w' := by
  subst h
  exact ⟨_, rfl, hp, hb⟩
/-- Rows that came in, or the call's own. -/
def Either (w wr : World) (v : Value) (rs : List Rw) : Prop := RR w v rs ∨ OR 5 25 wr w.heap.size v rs
theorem Either.rr {w wr : World} {v : Value} {rs : List Rw} (h : Either w wr v rs) (hb : Below w.heap.size w wr) : RR wr v rs := by
  rcases h with h | h
  · exact rr_below h hb (Nat.le_refl _)
  · exact h.rr

set_option maxRecDepth 100000 in
set_option maxHeartbeats 4000000 in
theorem refBuild_any (v : Value) (rs : List Rw) (w : World) (hv : RR w v rs) :
    Calls Try.prog 19 #[v] w (GivesBd w (buildL rs)) := by
  have HV := Lib.hid hv
  have hri := refRising_any v rs w hv
  obtain ⟨A, c, rfl, hlc, hc63⟩ := rr_shape hv
  have hB : buildL rs = if risingL rs = false ∨ 5000 < rs.length then none else buildF 5 0 [] rs := rfl
  clear hv
  cases hr : risingL rs with
  | false =>
    rw [if_pos (.inl hr)] at hB
    rw [hr] at hri
    have HB := Lib.hid hB
    have HRI := Lib.hid hri
    clear hB hri hr
    go_enter Try.func19, Try.ntmps19
    go_wp2_with fail
    refine HRI.out.mono ?_
    rintro e w1 ⟨rfl, hbel⟩
    have HB1 := Lib.hid hbel
    clear hbel
    go_wp2
    go_ret2
    exact GivesBd.none_ HB.out HB1.out
  | true =>
    rw [hr] at hri
    have HRI := Lib.hid hri
    by_cases hbig : 5000 < rs.length
    · rw [if_pos (.inr hbig)] at hB
      have HB := Lib.hid hB
      have hbig' : (5000 : Int) < (rs.length : Int) := by omega
      clear hB hri hr
      go_enter Try.func19, Try.ntmps19
      go_wp2_with fail
      refine HRI.out.mono ?_
      rintro e w1 ⟨rfl, hbel⟩
      have HB1 := Lib.hid hbel
      clear hbel
      go_wp2
      go_ret2
      exact GivesBd.none_ HB.out HB1.out
    · rw [if_neg (by rw [hr]; simp; omega)] at hB
      have HBB := Lib.hid hB
      have hbig' : (rs.length : Int) ≤ 5000 := by omega
      clear hB hri hr
      go_enter Try.func19, Try.ntmps19
      go_wp2_with fail
      refine HRI.out.mono ?_
      rintro e w1 ⟨rfl, hbel⟩
      have HB1 := Lib.hid hbel
      clear hbel
      go_wp2
      go_loopw [0, 4, 5] (fun lv av i wr => ∃ (k : Nat) (all : List (List UInt8)) (rest : List Rw), k ≤ 5 ∧ i = .int .i64 k ∧ OP 5 23 wr w.heap.size av all ∧ Either w wr lv rest ∧ Below w.heap.size w wr ∧
          buildF (5 - k) k all rest = buildF 5 0 [] rs ∧ rest.length ≤ 5000 + k ∧ all.length ≤ k * 6000)
        (fun _ _ i _ => 5 - (intOf i).toNat)
      case atStart => exact ⟨0, [], rs, by omega, rfl, OP.nil_ _ _ _ _, .inl HV.out, HB1.out, rfl, by omega, by simp⟩
      case round =>
        obtain ⟨k, all, rest, hk, rfl, hop, hei, hbel, hbf, hrl, hall⟩ := hrel
        obtain ⟨Wo, hWo⟩ : ∃ x, x = wr := ⟨_, rfl⟩
        subst hWo
        have hrr := hei.rr hbel
        obtain ⟨Al, cl, rfl, _, _⟩ := rr_shape hrr
        obtain ⟨Ap, cp, rfl, hp63, hpc⟩ := hop.shape
        have HOP := Lib.hid hop
        have HB := Lib.hid hbel
        have hsz := hbel.size
        clear HB1
        by_cases hlt : k < 5
        · have hlev := refLevel_any k all.length (by omega) (by omega) _ rest (by omega) Wo hrr
          rw [show 5 - k = (4 - k) + 1 from by omega, build_step] at hbf
          cases hlv : levelL (k : Int) all.length rest with
          | none =>
            rw [hlv] at hlev hbf
            have E := Lib.hid (show buildL rs = none by rw [HBB.out, ← hbf])
            have HLEV := Lib.hid hlev
            clear hlev hbf hop hei hbel hrr
            go_wp2_with fail
            refine HLEV.out.mono ?_
            rintro e w2 ⟨p, a, rfl, hp2, ha2, hb2⟩
            obtain ⟨A2, c2, rfl, _, _⟩ := hp2.shape
            obtain ⟨A3, c3, rfl⟩ := or_shape ha2
            have HB2 := Lib.hid (HB.out.trans (hb2.mono hsz))
            clear hp2 ha2 hb2
            go_wp2
            go_ret2
            exact GivesBd.none_ E.out HB2.out
          | some pa =>
            obtain ⟨pp, aa⟩ := pa
            have hll := level_len hlv
            rw [hlv] at hlev hbf
            simp only [] at hbf
            have HLEV := Lib.hid hlev
            have HBF := Lib.hid hbf
            have HEI := Lib.hid hei
            clear hlev hbf hop hei hbel hrr
            go_wp2_with fail
            refine HLEV.out.mono ?_
            rintro e w2 ⟨p, a, rfl, hp2, ha2, hb2⟩
            have hp2 : OP 5 23 w2 Wo.heap.size p pp := hp2
            have ha2 : OR 5 25 w2 Wo.heap.size a aa := ha2
            obtain ⟨A2, c2, rfl, hc2, hc2'⟩ := hp2.shape
            obtain ⟨A3, c3, rfl⟩ := or_shape ha2
            have hbel2 : Below w.heap.size w w2 := HB.out.trans (hb2.mono hsz)
            have hop2 := HOP.out.below hb2
            obtain ⟨us, hus, ho, hf⟩ := hop2
            obtain ⟨us2, hus2, ho2, hf2⟩ := hp2.base_ (base' := w.heap.size) hsz
            have hul : us.length = all.length := by rw [← hus, List.length_map]
            have hul2 : us2.length = pp.length := by rw [← hus2, List.length_map]
            have hone : ∀ x ∈ us2, x.2.oneCell' = true := fun x hx => fb_one (hf2 x hx)
            have hsrc := OP.src (tx := 33) ho2 Try.underlying33 hone
            rw [hul] at ho
            have ho0 := ho
            rw [hul2] at hsrc
            have HSRC := Lib.hid hsrc
            have HUS := Lib.hid hus
            have HUS2 := Lib.hid hus2
            have HUL := Lib.hid hul
            have HUL2 := Lib.hid hul2
            have HO := Lib.hid ho
            have HOR := Lib.hid (ha2.base_ (base' := w.heap.size) hsz)
            have HB2 := Lib.hid hbel2
            clear hp2 ha2 hb2 ho2 hus hus2 hul hul2 hsrc hone ho ho0 hbel2
            go_wp2_with (at_builtin; refine wpList_own rfl (.tmp 32) (.tmp 33) 33 33 rfl w.heap.size 23 (.slice none 0 0) 1 24 Try.underlying33 info23 rfl rfl HO.out rfl HSRC.out HB2.out (Nat.le_refl _) ?_ ?_ ?_ ?_)
            · unfold maxLen; omega
            · omega
            · exact HB2.out.size
            intro v4 w4 ho4 hb4 hg4
            have hop4 := OP.join (e := 5) (eP := 23) (us := us) (us2 := us2) (by decide) (by rw [HUL.out]; exact HO.out) hf hf2 (by rw [HUL.out, HUL2.out]; exact ho4) hg4
            rw [HUS.out, HUS2.out] at hop4
            have hor4 := or_grown HOR.out HO.out (by decide) (by decide) hg4
            obtain ⟨A4, c4, rfl, _, _⟩ := hop4.shape
            have HOP4 := Lib.hid hop4
            have HOR4 := Lib.hid hor4
            have HB4 := Lib.hid hb4
            clear hop4 hor4 hb4 hg4 ho4 hf hf2 HO HSRC HOP
            by_cases h1 : pp.length = 1
            · have E := Lib.hid (show buildL rs = some (all ++ pp) by rw [HBB.out, ← HBF.out, if_pos h1])
              have h1' : ((pp.length : Int) == 1) = true := by rw [h1]; rfl
              have H1 := Lib.hid h1
              clear h1
              go_wp2
              go_ret2
              exact GivesBd.some_ E.out HOP4.out HB4.out
            · have E := Lib.hid (show buildF (4 - k) (k + 1) (all ++ pp) aa = buildF 5 0 [] rs by rw [← HBF.out, if_neg h1])
              have h1' : ((pp.length : Int) == 1) = false := by rw [beq_eq_false_iff_ne]; omega
              have H1 := Lib.hid h1
              clear h1
              go_wp2
              go_roundw
              case rel => exact ⟨k + 1, all ++ pp, aa, by omega, by go_num, HOP4.out, .inr HOR4.out, HB4.out, by rw [show 5 - (k + 1) = 4 - k from by omega]; exact E.out, by omega, by rw [List.length_append]; omega⟩
              case measure => simp [intOf]; omega
        · have e : k = 5 := by omega
          subst e
          rw [Nat.sub_self, buildF] at hbf
          have E := Lib.hid (show buildL rs = none by rw [HBB.out, ← hbf])
          clear hbf hop hei hbel hrr
          go_wp2
          go_ret2
          exact GivesBd.none_ E.out HB.out
end Go.Proofs.Ytbacdeogggcbfaa
