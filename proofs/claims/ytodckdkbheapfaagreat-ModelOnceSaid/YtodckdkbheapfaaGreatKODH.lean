/-
  Plain mathematics of a stable sort of places by falling priority (layer model). No program.
-/
import Derived.Sort.LotA
import Derived.Test.YtodckdkbheapfaaGreatKOB
set_option linter.unusedVariables false
set_option linter.unusedVariables false
set_option linter.unusedSimpArgs false
namespace Go.Pso
open Go.Sort
variable {N : Nat}
def ltP (p : Fin (N + 1) → Int) (x y : Fin (N + 1)) : Bool := decide (p y < p x)
def ltX (p : Fin (N + 1) → Int) (x y : Fin (N + 1)) : Bool := decide (p y < p x) || (decide (p x = p y) && decide (x.val < y.val))
theorem swoX (p : Fin (N + 1) → Int) : SWO (ltX p) where
  irrefl x := by simp [ltX]
  trans x y z h1 h2 := by
    simp [ltX] at h1 h2 ⊢
    omega
  ntrans x y z h1 h2 := by
    simp [ltX] at h1 h2 ⊢
    omega
theorem ltX_total {p : Fin (N + 1) → Int} {x y : Fin (N + 1)} (h : x.val ≠ y.val) (h1 : ltX p x y = false) : ltX p y x = true := by
  simp [ltX] at h1 ⊢
  omega
theorem ltP_X {p : Fin (N + 1) → Int} {x y : Fin (N + 1)} (h : y.val < x.val) : ltP p x y = ltX p x y := by
  simp only [ltP, ltX]
  have h2 : ¬ x.val < y.val := by omega
  simp [h2]
theorem insInner_eq (p : Fin (N + 1) → Int) (a : Nat) : ∀ (j : Nat) (d : Array (Fin (N + 1))), j < d.size → (∀ k, a ≤ k → k < j → d[k]!.val < d[j]!.val) → insInner (ltP p) a j d = insInner (ltX p) a j d
  | 0, d, _, _ => rfl
  | j + 1, d, hj, h => by
    unfold insInner
    by_cases ha : j + 1 > a
    · have h1 := h j (by omega) (by omega)
      rw [ltP_X h1]
      by_cases hc : (decide (j + 1 > a) && ltX p d[j + 1]! d[j]!) = true
      · rw [if_pos hc, if_pos hc]
        refine insInner_eq p a j (swp d (j + 1) j) (by rw [swp_size]; omega) fun k hk hkj => ?_
        rw [swp_get d hj (by omega), swp_get d hj (by omega), if_neg (by omega), if_neg (by omega), if_pos rfl]
        exact h k hk (by omega)
      · rw [if_neg hc, if_neg hc]
    · have : decide (j + 1 > a) = false := by simp; omega
      simp [this]
theorem ins_perm (lt : Fin (N + 1) → Fin (N + 1) → Bool) (a b i : Nat) (hib : i < b) : ∀ (j : Nat) (d : Array (Fin (N + 1))), a ≤ j → j ≤ i → b ≤ d.size → PermIn a b d (insInner lt a j d)
  | 0, d, _, _, _ => permIn_refl d a b
  | j + 1, d, haj, hji, hb => by
    unfold insInner
    split
    · rename_i hc
      simp only [Bool.and_eq_true, decide_eq_true_eq] at hc
      exact permIn_trans _ _ _ a b (swp_permIn d a b (j + 1) j haj (by omega) (by omega) (by omega) hb) (ins_perm lt a b i hib j (swp d (j + 1) j) (by omega) (by omega) (by rw [swp_size]; exact hb))
    · exact permIn_refl d a b
theorem insOuter_eq (p : Fin (N + 1) → Int) (a b : Nat) : ∀ (n i : Nat) (d : Array (Fin (N + 1))), b - i = n → a < i → b ≤ d.size → (∀ k m, a ≤ k → k < m → i ≤ m → m < b → d[k]!.val < d[m]!.val) → insOuter (ltP p) a b i d = insOuter (ltX p) a b i d
  | 0, i, d, hn, _, _, _ => by
    have e1 : insOuter (ltP p) a b i d = d := by rw [insOuter]; rw [if_neg (by omega)]
    have e2 : insOuter (ltX p) a b i d = d := by rw [insOuter]; rw [if_neg (by omega)]
    rw [e1, e2]
  | n + 1, i, d, hn, hai, hb, h => by
    have e1 : insOuter (ltP p) a b i d = insOuter (ltP p) a b (i + 1) (insInner (ltP p) a i d) := by rw [insOuter]; rw [if_pos (by omega)]
    have e2 : insOuter (ltX p) a b i d = insOuter (ltX p) a b (i + 1) (insInner (ltX p) a i d) := by rw [insOuter]; rw [if_pos (by omega)]
    rw [e1, e2]
    rw [insInner_eq p a i d (by omega) (fun k hk hki => h k i hk hki (Nat.le_refl _) (by omega))]
    have hp := ins_perm (ltX p) a (i + 1) i (by omega) i d (by omega) (Nat.le_refl _) (by omega)
    refine insOuter_eq p a b n (i + 1) _ (by omega) (by omega) (by rw [hp.1]; exact hb) fun k m hk hkm hm hmb => ?_
    rw [hp.2.1 m (.inr (by omega))]
    by_cases hki : k < i + 1
    · exact permIn_all d _ a (i + 1) (fun x => x.val < d[m]!.val) (by omega) hp (fun q hq hqi => h q m hq (by omega) (by omega) hmb) k hk hki
    · rw [hp.2.1 k (.inr (by omega))]
      exact h k m hk hkm (by omega) hmb
theorem insertion_stable (p : Fin (N + 1) → Int) (d : Array (Fin (N + 1))) {a b : Nat} (hab : a ≤ b) (hb : b ≤ d.size) (h : ∀ k m, a ≤ k → k < m → m < b → d[k]!.val < d[m]!.val) :
    PermIn a b d (insertionSort (ltP p) d a b) ∧ SortedIn (ltX p) a b (insertionSort (ltP p) d a b) := by
  have e : insertionSort (ltP p) d a b = insertionSort (ltX p) d a b := by
    unfold insertionSort
    exact insOuter_eq p a b _ (a + 1) d rfl (by omega) hb (fun k m hk hkm _ hmb => h k m hk hkm hmb)
  rw [e]
  exact insertionSort_holds (swoX p) d a b hab hb
theorem sorted_list (p : Fin (N + 1) → Int) {d d2 : Array (Fin (N + 1))} (hd : d.toList.Pairwise (fun x y => x.val < y.val)) (hp : PermIn 0 d.size d d2) (hs : SortedIn (ltX p) 0 d.size d2) :
    d2.toList.Perm d.toList ∧ d2.toList.Pairwise (fun x y => p y < p x ∨ (p x = p y ∧ x.val < y.val)) := by
  have h1 : d2.toList.Perm d.toList := by
    have := hp.2.2
    rw [← hp.1] at this
    rw [Array.extract_size] at this
    rw [hp.1, Array.extract_size] at this
    exact this
  refine ⟨h1, ?_⟩
  have hnd : d2.toList.Nodup := (List.Perm.nodup_iff h1).2 (hd.imp (fun {a b} hab e => by rw [e] at hab; exact absurd hab (Nat.lt_irrefl _)))
  rw [List.pairwise_iff_getElem]
  intro i j hi hj hij
  have hi2 : i < d2.size := by simpa using hi
  have hj2 : j < d2.size := by simpa using hj
  have hlt := hs i j (Nat.zero_le _) hij (by have := hp.1; omega)
  rw [getElem!_pos d2 i hi2, getElem!_pos d2 j hj2] at hlt
  have hne : d2[j].val ≠ d2[i].val := fun e => by
    have e2 : d2[j] = d2[i] := Fin.ext e
    have hnd2 := List.pairwise_iff_getElem.1 hnd i j hi hj hij
    simp only [Array.getElem_toList] at hnd2
    exact hnd2 e2.symm
  have := ltX_total hne hlt
  simp [ltX] at this
  simp only [Array.getElem_toList]
  exact this
structure Runs (p : Fin (N + 1) → Int) (a m b : Nat) (d : Array (Fin (N + 1))) : Prop where
  l : SortedIn (ltX p) a m d
  r : SortedIn (ltX p) m b d
  x : ∀ i j, a ≤ i → i < m → m ≤ j → j < b → d[i]!.val < d[j]!.val
theorem runs_two {p : Fin (N + 1) → Int} {d d1 d2 : Array (Fin (N + 1))} {m : Nat} (hd : ∀ k j, k < j → j < d.size → d[k]!.val < d[j]!.val) (hm : m ≤ d.size) (h1 : PermIn 0 m d d1) (s1 : SortedIn (ltX p) 0 m d1) (h2 : PermIn m d.size d1 d2) (s2 : SortedIn (ltX p) m d.size d2) : Runs p 0 m d.size d2 ∧ PermIn 0 d.size d d2 := by
  have hs1 : d1.size = d.size := h1.1
  refine ⟨⟨fun i j h3 h4 h5 => ?_, s2, fun i j h3 h4 h5 h6 => ?_⟩, ?_⟩
  · rw [h2.2.1 i (.inl (by omega)), h2.2.1 j (.inl (by omega))]
    exact s1 i j h3 h4 h5
  · rw [h2.2.1 i (.inl (by omega))]
    refine permIn_all d1 d2 m d.size (fun y => d1[i]!.val < y.val) (by omega) h2 (fun k k1 k2 => ?_) j h5 h6
    rw [h1.2.1 k (.inr k1)]
    exact permIn_all d d1 0 m (fun y => y.val < d[k]!.val) hm h1 (fun q q1 q2 => hd q k (by omega) k2) i h3 h4
  · exact permIn_trans _ _ _ _ _ (permIn_mono d d1 0 m 0 d.size (Nat.le_refl _) hm (Nat.le_refl _) h1) (permIn_mono d1 d2 m d.size 0 d.size (Nat.zero_le _) (Nat.le_refl _) (by omega) h2)
end Go.Pso
