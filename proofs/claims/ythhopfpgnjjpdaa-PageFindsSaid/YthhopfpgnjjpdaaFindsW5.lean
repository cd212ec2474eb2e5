/-
  The walk of PageFinds: it answers true of any choice and text.
-/
import Derived.Test.YthhopfpgnjjpdaaReadsW5
import Derived.Laws.Concat
namespace Go.Pg
/-- Rows whose keys are letters that rise. -/
def letter (i : Nat) : Rw := (⟨#[UInt8.ofNat (97 + i)]⟩, [])
def letters (n : Nat) : List Rw := (List.range n).map letter
theorem letters_len (n : Nat) : (letters n).length = n := by simp [letters]
theorem letters_succ (n : Nat) : letters (n + 1) = letters n ++ [letter n] := by simp [letters, List.range_succ]
theorem letters_get {n i : Nat} (h : i < n) : (letters n)[i]'(by rw [letters_len]; exact h) = letter i := by simp [letters]
theorem u8_lt {a b : Nat} (ha : a < 256) (hb : b < 256) : (UInt8.ofNat a < UInt8.ofNat b) ↔ a < b := by
  rw [UInt8.lt_iff_toNat_lt, UInt8.toNat_ofNat', UInt8.toNat_ofNat']
  omega
theorem sle_letter {c d : Nat} (hc : c < 256) (hd : d < 256) (s : ByteArray) : sle ⟨#[UInt8.ofNat c]⟩ (⟨#[UInt8.ofNat d]⟩ ++ s) = decide (c ≤ d) := by
  have e1 : (⟨#[UInt8.ofNat c]⟩ : ByteArray).toList = [UInt8.ofNat c] := by rw [ByteArray.toList_eq]
  have e2 : ((⟨#[UInt8.ofNat d]⟩ : ByteArray) ++ s).toList = UInt8.ofNat d :: s.data.toList := by
    rw [ByteArray.toList_eq, ByteArray.data_append]; simp
  unfold sle
  rw [e1, e2]
  have hlt := u8_lt hc hd
  have heq : (UInt8.ofNat c = UInt8.ofNat d) ↔ c = d := by
    constructor
    · intro h
      have := congrArg UInt8.toNat h
      rw [UInt8.toNat_ofNat', UInt8.toNat_ofNat'] at this
      omega
    · intro h; rw [h]
  unfold Op.bytesLess
  rcases (show c < d ∨ c = d ∨ d < c from by omega) with h | h | h
  · simp [hlt.2 h, show c ≤ d from by omega]
  · subst h
    cases s.data.toList with
    | nil => simp [Op.bytesLess]
    | cons x xs => simp [Op.bytesLess]
  · have h1 : ¬ UInt8.ofNat c < UInt8.ofNat d := fun x => by have := hlt.1 x; omega
    have h2 : ¬ UInt8.ofNat c = UInt8.ofNat d := fun x => by have := heq.1 x; omega
    simp [h1, h2, show ¬ c ≤ d from by omega]
theorem findC_append (a b : List Rw) (key : ByteArray) (h : ∀ r ∈ a, sle r.1 key = true) : findC (a ++ b) key = a.length + findC b key := by
  induction a with
  | nil => simp
  | cons r a ih =>
    rw [List.cons_append, findC, if_pos (h r (by simp)), ih (fun r hr => h r (by simp [hr])), List.length_cons]
    omega
theorem find_letters {n i : Nat} (hn : n ≤ 26) (hi : i < n) (s : ByteArray) : findL (letters n) (⟨#[UInt8.ofNat (97 + i)]⟩ ++ s) = i := by
  have hl := letters_len n
  have e : letters n = (letters n).take (i + 1) ++ (letters n).drop (i + 1) := (List.take_append_drop _ _).symm
  unfold findL
  rw [e, findC_append _ _ _ (fun r hr => ?_)]
  · have h0 : findC ((letters n).drop (i + 1)) (⟨#[UInt8.ofNat (97 + i)]⟩ ++ s) = 0 := by
      by_cases h : i + 1 < n
      · rw [List.drop_eq_getElem_cons (by rw [hl]; exact h), findC, letters_get h]
        unfold letter
        rw [if_neg (by rw [sle_letter (by omega) (by omega)]; simp)]
      · rw [List.drop_eq_nil_of_le (by rw [hl]; omega)]; rfl
    rw [h0, List.length_take, hl]
    omega
  · obtain ⟨j, hj, rfl⟩ := List.mem_iff_getElem.1 hr
    rw [List.length_take, hl] at hj
    rw [List.getElem_take, letters_get (by omega)]
    unfold letter
    rw [sle_letter (by omega) (by omega)]
    simp
    omega
theorem append_empty (a : ByteArray) : a ++ ⟨#[]⟩ = a := by
  apply ByteArray.ext
  rw [ByteArray.data_append]
  simp
theorem find_letter {n i : Nat} (hn : n ≤ 26) (hi : i < n) : findL (letters n) ⟨#[UInt8.ofNat (97 + i)]⟩ = i := by
  have := find_letters hn hi ⟨#[]⟩
  rwa [append_empty] at this
theorem find_A (n : Nat) (hn : n ≤ 26) : findL (letters n) ⟨#[65]⟩ = -1 := by
  unfold findL
  have h0 : findC (letters n) ⟨#[65]⟩ = 0 := by
    cases n with
    | zero => rfl
    | succ n =>
      have := letters_len (n + 1)
      have h := List.drop_eq_getElem_cons (l := letters (n + 1)) (i := 0) (by omega)
      rw [List.drop_zero] at h
      rw [h, findC, letters_get (by omega)]
      unfold letter
      have h2 := sle_letter (c := 97 + 0) (d := 65) (by omega) (by omega) ⟨#[]⟩
      rw [append_empty] at h2
      have e : (⟨#[UInt8.ofNat 65]⟩ : ByteArray) = ⟨#[65]⟩ := rfl
      rw [e] at h2
      rw [if_neg (by simp only []; rw [h2]; simp)]
  rw [h0]
  rfl
end Go.Pg
namespace Go.Proofs.Ythhopfpgnjjpdaa
open Go.RowKit Go.Rst Go.Pg Go.Crc

theorem find_nil (s : ByteArray) (w : World) : Calls Try.prog 21 #[.slice none 0 0, .string s] w fun e w' => e = .returned (.int .i64 (-1)) ∧ Below w.heap.size w w' := find_any _ [] s w (rr_nil w)

set_option maxRecDepth 100000 in
set_option maxHeartbeats 3200000 in
theorem finds_walk (n0 : Nat) (s : ByteArray) (w : World) (hn0 : n0 ≤ 255) :
    Calls Try.prog 8 #[.int .u8 n0, .string s] w fun e w' => e = .returned (.bool true) ∧ Below w.heap.size w w' := by
  by_cases hbig : 40 < s.size
  · have hbig' : (40 : Int) < (s.size : Int) := by omega
    go_enter Try.func8, Try.ntmps8
    go_wp2_with fail
    refine (known_any _).mono ?_
    rintro e w1 ⟨rfl, hbel⟩
    have HB1 := Lib.hid hbel
    clear hbel
    go_wp2
    go_ret
    exact ⟨rfl, HB1.out⟩
  · have hbig' : (s.size : Int) ≤ (40 : Int) := by omega
    obtain ⟨N, hN⟩ : ∃ N, N = n0 % 26 := ⟨_, rfl⟩
    have hNi : (n0 : Int) % 26 = (N : Int) := by omega
    have hN26 : N ≤ 25 := by omega
    clear hN
    go_enter Try.func8, Try.ntmps8
    go_wp2
    go_loopw [5, 6] (fun lv i wr => ∃ k : Nat, k ≤ N ∧ i = .int .i64 k ∧ OR 5 35 wr w.heap.size lv (letters k) ∧ Below w.heap.size w wr) (fun _ i _ => N - (intOf i).toNat)
    case atStart => exact ⟨0, Nat.zero_le _, rfl, OR.nil_ _ _ _ _, Below.refl _ _⟩
    case round =>
      obtain ⟨k, hk, rfl, hor, hbel⟩ := hrel
      have hsz := hbel.size
      obtain ⟨Wo, hWo⟩ : ∃ x, x = wr := ⟨_, rfl⟩
      subst hWo
      by_cases hlt : k < N
      · have hkey : UInt8.ofNat (97 + (k : Int)).toNat = UInt8.ofNat (97 + k) := by congr 1
        have hlit := lit_str Wo (97 + (k : Int)) (by omega) (by omega)
        rw [hkey] at hlit
        have hb1 := hbel.alloc hsz (Obj.cells #[.int .u8 (97 + (k : Int))] 5)
        obtain ⟨key, hkd⟩ : ∃ key : ByteArray, key = ⟨#[UInt8.ofNat (97 + k)]⟩ := ⟨_, rfl⟩
        rw [← hkd] at hlit
        have hls := letters_succ k
        unfold letter at hls
        rw [← hkd] at hls
        have HLS := Lib.hid hls
        have hor1 := (hor.alloc (Obj.cells #[.int .u8 (97 + (k : Int))] 5)).alloc (Obj.cells #[.string key, .slice none 0 0] 35)
        have hb2 := hb1.alloc hb1.size (Obj.cells #[.string key, .slice none 0 0] 35)
        obtain ⟨us, hus, ho, hfs⟩ := hor1
        have HLU := Lib.hid (show us.length = k by have h := congrArg List.length hus; rw [List.length_map, letters_len] at h; exact h)
        have HUS := Lib.hid hus
        clear hor hbel hus hb1 hkd hkey hls
        go_wp2_with (at_builtin; refine wpList_own rfl (.tmp 19) (.tmp 26) 24 24 rfl w.heap.size 35 (.agg #[.string ⟨#[]⟩, .slice none 0 0]) 2 40 Try.underlying24 info35 rfl rfl ho rfl (src_two _ (by simp) Try.underlying24 35 _ _ rfl rfl) hb2 (Nat.le_refl _) ?_ ?_ ?_ ?_)
        · have := HLU.out; unfold maxLen; omega
        · have := HLU.out; omega
        · simp; omega
        intro v' w4 ho' hb4 hg4
        have hor4 := OR.push (by decide) ho hfs (.inl ⟨rfl, rfl⟩) ho' hg4
        rw [HUS.out] at hor4
        have HO4 := Lib.hid hor4
        have HB4 := Lib.hid hb4
        clear ho hfs ho' hg4 hor4 hb4 hlit hb2
        go_wp2
        go_roundw
        case rel => exact ⟨k + 1, by omega, by go_num, by rw [HLS.out]; exact HO4.out, HB4.out⟩
        case measure => simp [intOf]; omega
      · have e : k = N := by omega
        subst e
        have HB := Lib.hid hbel
        have HR := Lib.hid hor.rr
        obtain ⟨A3, c3, rfl⟩ := or_shape hor
        have hlen := letters_len k
        have hfi := fun i (hi : i < k) => find_letter (n := k) (by omega) hi
        have hfs := fun i (hi : i < k) => find_letters (n := k) (by omega) hi s
        have hfA := find_A k (by omega)
        have hget : ∀ i, i < k → ∃ h : i < (letters k).length, (letters k)[i]'h = letter i := fun i hi => ⟨by rw [letters_len]; exact hi, letters_get (n := k) hi⟩
        generalize letters k = ls at *
        have HFI := Lib.hid hfi
        have HFS := Lib.hid hfs
        have HFA := Lib.hid hfA
        have HG := Lib.hid hget
        rw [hlen]
        have HLN := Lib.hid hlen
        clear hor hbel hfi hfs hfA hget hlen
        go_wp2
        clear hNi
        go_loopw [7] (fun i wr => ∃ j : Nat, j ≤ k ∧ i = .int .i64 j ∧ RR wr (.slice A3 k c3) ls ∧ Below w.heap.size w wr) (fun i _ => k - (intOf i).toNat)
        case atStart => exact ⟨0, Nat.zero_le _, rfl, by rw [← HLN.out]; exact HLN.out ▸ HR.out, HB.out⟩
        case round =>
          obtain ⟨j, hj, rfl, hrr, hbel⟩ := hrel
          have hrr' := hrr
          rw [← HLN.out] at hrr'
          by_cases hjk : j < k
          · obtain ⟨b, off, u, rfl, hx, hy, hr⟩ := rr_at hrr (k := j) (by rw [HLN.out]; exact hjk)
            obtain ⟨_, hgj⟩ := HG.out j hjk
            rw [hgj] at hx
            unfold letter at hx
            have c1 := fun W h => find_any (.slice (some ⟨b, off, none⟩) k c3) ls ⟨#[UInt8.ofNat (97 + j)]⟩ W h
            have c2 := fun W h => find_any (.slice (some ⟨b, off, none⟩) k c3) ls (⟨#[UInt8.ofNat (97 + j)]⟩ ++ s) W h
            rw [HFI.out j hjk] at c1
            rw [HFS.out j hjk] at c2
            obtain ⟨key, hkd⟩ : ∃ key : ByteArray, key = ⟨#[UInt8.ofNat (97 + j)]⟩ := ⟨_, rfl⟩
            have hks : (key.size : Int) = 1 := by rw [hkd]; rfl
            rw [← hkd] at c1 c2
            simp only [← hkd] at hx
            have C1 := Lib.hid c1
            have C2 := Lib.hid c2
            have hb := rr_block hrr (by rw [HLN.out]; omega)
            have HB2 := Lib.hid hbel
            have HR2 := Lib.hid hrr
            have hje : ((j : Int) != (j : Int)) = false := by simp
            clear hkd c1 c2 hrr hrr' hbel hy hr HR
            go_wp2_with fail
            refine (C1.out _ HR2.out).mono ?_
            rintro e w5 ⟨rfl, hbel⟩
            have HB5 := Lib.hid (HB2.out.trans (hbel.mono HB2.out.size))
            have hx5 := (hbel.cell (p := ⟨b, off + j * 2, none⟩) hb).trans hx
            have HR5 := Lib.hid (rr_below HR2.out hbel (Nat.le_refl _))
            clear hbel hx
            go_wp2_with fail
            refine (C2.out _ HR5.out).mono ?_
            rintro e w6 ⟨rfl, hbel⟩
            have HB6 := Lib.hid (HB5.out.trans (hbel.mono HB5.out.size))
            have HR6 := Lib.hid (rr_below HR5.out hbel (Nat.le_refl _))
            clear hbel hx5
            go_wp2
            go_roundw
            case rel => exact ⟨j + 1, by omega, by go_num, HR6.out, HB6.out⟩
            case measure => simp [intOf]; omega
          · have HB2 := Lib.hid hbel
            have HR2 := Lib.hid hrr
            have c1 := fun W h => find_any (.slice A3 k c3) ls ⟨#[65]⟩ W h
            rw [HFA.out] at c1
            have C1 := Lib.hid c1
            clear hrr hrr' hbel HR c1
            go_wp2_with fail
            refine (known_any _).mono ?_
            rintro e w5 ⟨rfl, hbel⟩
            have HB5 := Lib.hid (HB2.out.trans (hbel.mono HB2.out.size))
            have HR5 := Lib.hid (rr_below HR2.out hbel (Nat.le_refl _))
            clear hbel
            go_wp2_with fail
            refine (C1.out _ HR5.out).mono ?_
            rintro e w6 ⟨rfl, hbel⟩
            have HB6 := Lib.hid (HB5.out.trans (hbel.mono HB5.out.size))
            clear hbel
            go_wp2_with fail
            refine (find_nil s _).mono ?_
            rintro e w7 ⟨rfl, hbel⟩
            have HB7 := Lib.hid (HB6.out.trans (hbel.mono HB6.out.size))
            clear hbel
            go_wp2
            go_ret
            exact ⟨rfl, HB7.out⟩
end Go.Proofs.Ythhopfpgnjjpdaa
