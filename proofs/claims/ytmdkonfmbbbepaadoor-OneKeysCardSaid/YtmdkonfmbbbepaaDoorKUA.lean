/-
  Words and laws on byte slices and own rows that hold over any program: a slice that reads as bytes, a fresh row, an append onto a row of the call's own from whatever source. No condition beyond those that each theorem states.; Plain facts on the bytes of numbers and texts: what was put is read back, what is cut short is not, and neither is a longer way to tell a number.; Plain mathematics of topics and of what stands beside a message, without any program: words, parts, patterns, pairs.; max of two numbers at a step of a walk. No program.; Plain mathematics of pages: how many rows fit, the bytes of a page, and the way back. No program.; Plain mathematics: the order of bytes; rising rows. No program.; Words on slices of changes (key, value, gone), over any program: how they read, and changes of the call's own.; Plain mathematics: what changes make of rows; where a key stands among rising rows; what differs. No program.
-/
import Derived.WalkKit
import Derived.WalkLawsBesides
import Derived.Deep.AppendSrc
import Derived.Deep.Upon
import Derived.Lib.Hide
import Derived.Laws.IdiomStrings
import Derived.ScopeJumps
import Derived.WalkSpells
import Derived.Laws.BitsAllLaws
import Derived.Laws.BitsLemmas
import Derived.Test.YtmdkonfmbbbepaaDoorKUH
set_option linter.unusedVariables false
namespace Go.Rst
open Go.RowKit
def bv (c : UInt8) : Value := .int .u8 (c.toNat : Int)
def bvs (l : List UInt8) : List Value := l.map bv
theorem bvs_length (l : List UInt8) : (bvs l).length = l.length := by simp [bvs]
theorem bvs_append (a b : List UInt8) : bvs (a ++ b) = bvs a ++ bvs b := by simp [bvs]
theorem bvs_one {l : List UInt8} : ∀ u ∈ bvs l, u.oneCell' = true := by
  intro u hu
  obtain ⟨_, _, rfl⟩ := List.mem_map.1 hu
  rfl
theorem bvs_get {l : List UInt8} {j : Nat} (h : j < l.length) : (bvs l)[j]? = some (bv l[j]) := by
  simp [bvs, List.getElem?_eq_getElem h]
section
variable {P : Program}
theorem run_append_own_src (w : World) (base : Nat) (t tx ty e : TypeId) (i : TypeInfo) (z : Value) (size bytes : Nat) (ht : P.underlying t = some (.slice e)) (hi : P.info? e = some i) (hz : i.zero = some z)
    (hsize : i.size = size) (hby : i.bytes = bytes) (hzs : z.cells.size = size)
    (v : Value) (n : Nat) (xs : List Value) (hown : w.ownsRow base e size v n xs)
    (x : Value) (m : Nat) (news : List Value) (hs : Src P size tx x m news w)
    (h63 : n + m ≤ maxLen) (hbytes : (n + m) * bytes ≤ 140737488355328) (hbase : base ≤ w.heap.size) :
    ∃ v' w', (Builtin.append_ #[t, tx] ty #[v, x]).run P w = .ok v' w' ∧ w'.ownsRow base e size v' (n + m) (xs ++ news) ∧ w.grownBy w' v.ownBlock ∧
      (v'.ownBlock = v.ownBlock ∨ v'.ownBlock = some w.heap.size) := by
  subst hsize
  subst hby
  have hl := hs.newsLen
  have hsmall : n + m ≤ 9223372036854775807 := by simp only [maxLen] at h63; omega
  have hlen : (xs ++ news).length = (n + m) * i.size := by rw [List.length_append, hown.1, hl, Nat.add_mul]
  have grown : ∀ (old : Nat), old < n + m → ∀ (row : Option Nat),
      (w.drew.alloc (.cells ((xs ++ news).toArray ++ Builtin.zeroCells z.cells (grownCap w (n + m) old e - (n + m))) e)).ownsRow base e i.size
        (.slice (some ⟨w.heap.size, 0, none⟩) (n + m) (grownCap w (n + m) old e)) (n + m) (xs ++ news) ∧
      w.grownBy (w.drew.alloc (.cells ((xs ++ news).toArray ++ Builtin.zeroCells z.cells (grownCap w (n + m) old e - (n + m))) e)) row := by
    intro old ho row
    have hge := grownCap_ge w (n + m) old e
    have hcm : grownCap w (n + m) old e ≤ maxLen := grownCap_le_maxLen w (n + m) old e h63
    refine ⟨⟨hlen, .inr ⟨w.heap.size, _, _, rfl, hbase, heap_alloc_new w.drew _, hge, hcm, ?_, ?_⟩⟩, ⟨rfl, rfl, rfl, by simp, fun k hk _ => Below.heap_alloc w.drew _ k hk⟩⟩
    · rw [Array.size_append, size_zeroCells, hzs, List.size_toArray, hlen, ← Nat.add_mul]
      congr 1
      omega
    · rw [Array.toList_append, List.toList_toArray, ← hlen]
      exact List.take_left
  rcases hown.2 with ⟨rfl, rfl⟩ | ⟨g, cap, cur, rfl, hbg, hg, hnc, hcm, hcs, htake⟩
  · have hx : xs = [] := List.eq_nil_of_length_eq_zero (by simpa using hown.1)
    subst hx
    by_cases hm : m = 0
    · subst hm
      have hn : news = [] := List.eq_nil_of_length_eq_zero (by simpa using hl)
      subst hn
      exact ⟨.slice none 0 0, w, run_append_nothing w t tx ty e i ht hi none 0 0 (Nat.le_refl _) x hs, World.ownsRow_nil w base e i.size, ⟨rfl, rfl, rfl, Nat.le_refl _, fun _ _ _ => rfl⟩, .inl rfl⟩
    · have hr := run_append_grow_src (P := P) w t tx ty e i z ht hi hz none 0 0 [] (run_firstCells_none w.drew i.size 0 0 0) x m news hs (by omega) (by omega) (growslice_fits (by omega) hbytes)
      have hgr := grown 0 (by omega) (Value.ownBlock (.slice none 0 0))
      exact ⟨_, _, hr, hgr.1, hgr.2, .inr rfl⟩
  · by_cases hroom : n + m ≤ cap
    · have hfit : n * i.size + news.length ≤ cur.size := by rw [hl, hcs, ← Nat.add_mul]; exact Nat.mul_le_mul_right _ hroom
      have hst := run_storeCells_at P g (n * i.size) e news 0 cur w hg (by simpa using hfit) hs.one
      simp only [Nat.add_zero] at hst
      have hr : (Builtin.append_ #[t, tx] ty #[.slice (some ⟨g, 0, none⟩) n cap, x]).run P w =
          .ok (.slice (some ⟨g, 0, none⟩) (n + m) cap) (w.setRow g (cur.toList.take (n * i.size) ++ news ++ cur.toList.drop (n * i.size + news.length)).toArray) := by
        rcases hs.kind with ⟨e', hk⟩ | hk <;> simp [Builtin.append_, run_underlying ht, run_underlying hk, sizeOf, typeInfo, hi, hs.len, hroom, hs.cells, Addr.add_lit, hst]
      refine ⟨_, _, hr, ⟨hlen, .inr ⟨g, cap, _, rfl, hbg, setRow_heap w g cur _ e _ hg, hroom, hcm, ?_, ?_⟩⟩, ⟨rfl, rfl, rfl, by simp, fun k _ hk => setRow_other w g k _ (fun e => hk (by simp [Value.ownBlock, e]))⟩, .inl rfl⟩
      · simp only [List.size_toArray, List.length_append, List.length_take, List.length_drop, Array.length_toList]
        omega
      · rw [htake, ← hlen]
        exact List.take_left
    · have holds : ∀ j u, xs[j]? = some u → w.drew.cell? ((⟨g, 0, none⟩ : Addr).add j) = some u := hown.cells (g := g) rfl
      have hr := run_append_grow_src (P := P) w t tx ty e i z ht hi hz (some ⟨g, 0, none⟩) n cap xs (run_firstCells_some w.drew i.size n ⟨g, 0, none⟩ n cap xs hown.1 holds) x m news hs (by omega) (by omega) (growslice_fits (by omega) hbytes)
      have hgr := grown cap (by omega) (Value.ownBlock (.slice (some ⟨g, 0, none⟩) n cap))
      exact ⟨_, _, hr, hgr.1, hgr.2, .inr rfl⟩
theorem wp_append_src {w : World} {o : Oper} {a : Act} {K : Act → World → Prop} {Q : Exit → Act → World → Prop} (s x : Operand) (t tx : TypeId)
    (ho : o.op = .call { callee := .builtin .append, args := #[s, x], argTypes := #[t, tx] })
    (base : Nat) (e : TypeId) (i : TypeInfo) (z : Value) (size bytes : Nat) (ht : P.underlying t = some (.slice e)) (hi : P.info? e = some i) (hz : i.zero = some z)
    (hsize : i.size = size) (hby : i.bytes = bytes) (hzs : z.cells.size = size)
    {v : Value} {n : Nat} {xs : List Value} (hs : a.eval s = v) (hown : w.ownsRow base e size v n xs)
    {xv : Value} {m : Nat} {news : List Value} (hx : a.eval x = xv) (hsrc : Src P size tx xv m news w)
    (h63 : n + m ≤ maxLen) (hbytes : (n + m) * bytes ≤ 140737488355328) (hbase : base ≤ w.heap.size)
    (h : ∀ v' w', w'.ownsRow base e size v' (n + m) (xs ++ news) → w.grownBy w' v.ownBlock → (v'.ownBlock = v.ownBlock ∨ v'.ownBlock = some w.heap.size) → K (a.put o.dst v') w') : o.wp P a w K Q := by
  obtain ⟨v', w', hr, h2, h3, h4⟩ := run_append_own_src (P := P) w base t tx o.type e i z size bytes ht hi hz hsize hby hzs v n xs hown xv m news hsrc h63 hbytes hbase
  unfold Oper.wp execOp
  simp only [ho, resolve, invoke, builtin, Sem.run_bind, Sem.run_pure, Result.andThen_ok, List.map_toArray, List.map_cons, List.map_nil, hs, hx, hr]
  exact h v' w' h2 h3 h4
theorem wpList_append_src {w : World} {ops : Array Oper} {rest : List Oper} {o : Oper} {a : Act} {Q : Exit → Act → World → Prop} (hgd : o.guard = none) (s x : Operand) (t tx : TypeId)
    (ho : o.op = .call { callee := .builtin .append, args := #[s, x], argTypes := #[t, tx] })
    (base : Nat) (e : TypeId) (i : TypeInfo) (z : Value) (size bytes : Nat) (ht : P.underlying t = some (.slice e)) (hi : P.info? e = some i) (hz : i.zero = some z)
    (hsize : i.size = size) (hby : i.bytes = bytes) (hzs : z.cells.size = size)
    {v : Value} {n : Nat} {xs : List Value} (hs : a.eval s = v) (hown : w.ownsRow base e size v n xs)
    {xv : Value} {m : Nat} {news : List Value} (hx : a.eval x = xv) (hsrc : Src P size tx xv m news w)
    (h63 : n + m ≤ maxLen) (hbytes : (n + m) * bytes ≤ 140737488355328) (hbase : base ≤ w.heap.size)
    (h : ∀ v' w', w'.ownsRow base e size v' (n + m) (xs ++ news) → w.grownBy w' v.ownBlock → (v'.ownBlock = v.ownBlock ∨ v'.ownBlock = some w.heap.size) → wpList P ops Q rest (a.put o.dst v') w') : wpList P ops Q (o :: rest) a w :=
  wpList_plain hgd fun _ hK => wp_append_src s x t tx ho base e i z size bytes ht hi hz hsize hby hzs hs hown hx hsrc h63 hbytes hbase fun v' w' h2 h3 h4 => hK _ _ (h v' w' h2 h3 h4)
end
section
variable {P : Program} {a : Act} {w : World} {Q : Exit → Act → World → Prop}
def Behind (P : Program) (rest : Code) (Q : Exit → Act → World → Prop) (a : Act) (w : World) : Prop := rest.wp P (Exit.noGoto Q) a w
theorem wp_scope_fwd {c rest : Code} (l : Nat) (hf : findLabel c l = some rest) (first : c.wp P (Exit.jump l (Behind P rest Q) Q) a w) : (Code.scope c).wp P Q a w :=
  wp_scope_jumps l (Behind P rest Q) (fun _ _ => 0) hf first fun a w h => wp_mono (show rest.wp P (Exit.noGoto Q) a w from h) fun e a w hq => by
    cases e with
    | goto l' => exact hq.elim
    | normal => exact hq
    | exit id => exact hq
    | ret => exact hq
    | panic ch => exact hq
    | outgrown => exact hq
end
def numL (n : Nat) : List UInt8 := if _h : n < 128 then [UInt8.ofNat n] else UInt8.ofNat (n % 128 + 128) :: numL (n / 128)
termination_by n
decreasing_by omega
theorem numL_lt {n : Nat} (h : n < 128) : numL n = [UInt8.ofNat n] := by rw [numL]; simp [h]
theorem numL_ge {n : Nat} (h : 128 ≤ n) : numL n = UInt8.ofNat (n % 128 + 128) :: numL (n / 128) := by
  rw [numL]; simp [show ¬ n < 128 from by omega]
theorem numL_pos (n : Nat) : 1 ≤ (numL n).length := by
  by_cases h : n < 128
  · rw [numL_lt h]; simp
  · rw [numL_ge (by omega)]; simp
theorem numL_len : ∀ (j n : Nat), n < 128 ^ (j + 1) → (numL n).length ≤ j + 1
  | 0, n, h => by rw [numL_lt (by simpa using h)]; simp
  | j + 1, n, h => by
    by_cases h0 : n < 128
    · rw [numL_lt h0]; simp
    · rw [numL_ge (by omega), List.length_cons]
      have := numL_len j (n / 128) (by rw [Nat.pow_succ] at h; exact (Nat.div_lt_iff_lt_mul (by decide)).2 h)
      omega
theorem numL_len8 {n : Nat} (h : n ≤ 9007199254740992) : (numL n).length ≤ 8 := numL_len 7 n (Nat.lt_of_le_of_lt h (by decide))
theorem byte_more (k : Nat) : bits .or .u8 ((k : Int) % 256) 128 = ((UInt8.ofNat (k % 128 + 128)).toNat : Int) := by
  have e : ∀ m : Nat, m < 256 → bits .or .u8 (m : Int) 128 = ((UInt8.ofNat (m % 128 + 128)).toNat : Int) := by decide +kernel
  have h1 : ((k : Int) % 256) = ((k % 256 : Nat) : Int) := by omega
  rw [h1, e (k % 256) (Nat.mod_lt _ (by decide))]
  have h2 : k % 256 % 128 = k % 128 := by omega
  rw [h2]
theorem byte_last {k : Nat} (h : k < 128) : (k : Int) = ((UInt8.ofNat k).toNat : Int) := by
  have : (UInt8.ofNat k).toNat = k := by rw [UInt8.toNat_ofNat']; exact Nat.mod_eq_of_lt (by omega)
  rw [this]
theorem byte_low {d : Nat} (h : d < 256) : bits .andNot .i64 (d : Int) 128 = ((d % 128 : Nat) : Int) := by
  have e : ∀ m : Nat, m < 256 → bits .andNot .i64 (m : Int) 128 = ((m % 128 : Nat) : Int) := by decide +kernel
  exact e d h
theorem nat_of_i64 (a : Nat) (ha : a < 9223372036854775808) : (BitVec.ofInt 64 (a : Int)).toNat = a := by
  rw [BitVec.ofInt_natCast, BitVec.toNat_ofNat]; exact Nat.mod_eq_of_lt (by omega)
theorem or_i64 (a b : Nat) (ha : a < 9223372036854775808) (hb : b < 9223372036854775808) : bits .or .i64 (a : Int) (b : Int) = ((a ||| b : Nat) : Int) := by
  have hx : a ||| b < 2 ^ 63 := Nat.or_lt_two_pow (by omega) (by omega)
  show IntKind.i64.wrap ((BitVec.ofInt 64 (a : Int) ||| BitVec.ofInt 64 (b : Int)).toNat : Int) = _
  rw [BitVec.toNat_or, nat_of_i64 a ha, nat_of_i64 b hb, IntKind.wrap_i64]
  omega
theorem digit_up {acc d k : Nat} (hd : d < 256) (hk : k < 8) (ha : acc < 128 ^ k) :
    bits .or .i64 (acc : Int) (wrap64 (bits .andNot .i64 (d : Int) 128 * 2 ^ (7 * k))) = ((acc + d % 128 * 128 ^ k : Nat) : Int) := by
  have hp : (128 : Nat) ^ k = 2 ^ (7 * k) := by rw [Nat.pow_mul]
  have hle : (2 : Nat) ^ (7 * k) ≤ 2 ^ 49 := Nat.pow_le_pow_right (by decide) (by omega)
  have hlt : d % 128 * 2 ^ (7 * k) < 2 ^ 56 := by
    have h1 : d % 128 * 2 ^ (7 * k) ≤ 127 * 2 ^ 49 := Nat.mul_le_mul (by omega) hle
    omega
  rw [hp] at ha ⊢
  rw [byte_low hd]
  have hc : (((d % 128 : Nat) : Int) * 2 ^ (7 * k)) = ((d % 128 * 2 ^ (7 * k) : Nat) : Int) := by
    rw [Int.natCast_mul, Int.natCast_pow]; rfl
  rw [hc, IntWalk.wrap64_in _ ⟨by omega, by omega⟩, or_i64 acc _ (by omega) (by omega)]
  congr 1
  have h2 := Nat.shiftLeft_add_eq_or_of_lt (b := acc) (i := 7 * k) ha (d % 128)
  rw [Nat.shiftLeft_eq] at h2
  rw [Nat.or_comm, ← h2, Nat.add_comm]
def clip (n : Int) : Nat := (max 0 (min n 9007199254740992)).toNat
theorem clip_le (n : Int) : clip n ≤ 9007199254740992 := by unfold clip; omega
def gnumF (l : List UInt8) : Nat → Nat → Nat → Int → Int × Int × Int
  | 0, _, _, _ => (0, 0, 11)
  | f + 1, i, acc, q =>
    if q < 0 ∨ (l.length : Int) ≤ q then (0, 0, 10) else
    if 128 ≤ (l.getD q.toNat 0).toNat then gnumF l f (i + 1) (acc + (l.getD q.toNat 0).toNat % 128 * 128 ^ i) (q + 1)
    else if ((l.getD q.toNat 0).toNat = 0 ∧ 0 < i) ∨ 9007199254740992 < acc + (l.getD q.toNat 0).toNat % 128 * 128 ^ i then (0, 0, 11)
    else (((acc + (l.getD q.toNat 0).toNat % 128 * 128 ^ i : Nat) : Int), q + 1, 0)
def getNum (l : List UInt8) (q : Int) : Int × Int × Int := gnumF l 8 0 0 q
theorem gnumF_spec (l : List UInt8) : ∀ (f i acc : Nat) (q : Int),
    ((gnumF l f i acc q).2.2 = 0 ∧ 0 ≤ (gnumF l f i acc q).1 ∧ (gnumF l f i acc q).1 ≤ 9007199254740992 ∧ 0 ≤ q ∧ q < (gnumF l f i acc q).2.1 ∧ (gnumF l f i acc q).2.1 ≤ l.length) ∨
    (((gnumF l f i acc q).2.2 = 10 ∨ (gnumF l f i acc q).2.2 = 11) ∧ (gnumF l f i acc q).1 = 0 ∧ (gnumF l f i acc q).2.1 = 0)
  | 0, i, acc, q => .inr (by simp [gnumF])
  | f + 1, i, acc, q => by
    unfold gnumF
    split
    · exact .inr (by simp)
    · rename_i h
      split
      · rcases gnumF_spec l f (i + 1) (acc + (l.getD q.toNat 0).toNat % 128 * 128 ^ i) (q + 1) with ⟨h1, h2, h3, h4, h5, h6⟩ | h1
        · exact .inl ⟨h1, h2, h3, by omega, by omega, h6⟩
        · exact .inr h1
      · split
        · exact .inr (by simp)
        · rename_i h2
          refine .inl ⟨rfl, by simp only []; omega, by simp only []; omega, by omega, by simp only []; omega, by simp only []; omega⟩
theorem getNum_spec (l : List UInt8) (q : Int) : ((getNum l q).2.2 = 0 ∧ 0 ≤ (getNum l q).1 ∧ (getNum l q).1 ≤ 9007199254740992 ∧ 0 ≤ q ∧ q < (getNum l q).2.1 ∧ (getNum l q).2.1 ≤ l.length) ∨
    (((getNum l q).2.2 = 10 ∨ (getNum l q).2.2 = 11) ∧ (getNum l q).1 = 0 ∧ (getNum l q).2.1 = 0) := gnumF_spec l 8 0 0 q
def getText (l : List UInt8) (p most : Int) : List UInt8 × Int × Int :=
  if (getNum l p).2.2 ≠ 0 then ([], 0, (getNum l p).2.2)
  else if most < (getNum l p).1 then ([], 0, 3)
  else if (l.length : Int) - (getNum l p).2.1 < (getNum l p).1 then ([], 0, 10)
  else ((l.drop (getNum l p).2.1.toNat).take (getNum l p).1.toNat, (getNum l p).2.1 + (getNum l p).1, 0)
def RB (w : World) (v : Value) (l : List UInt8) : Prop :=
  ∃ A c, v = .slice A l.length c ∧ l.length ≤ c ∧ c ≤ maxLen ∧ (l = [] ∨ ∃ b off, A = some ⟨b, off, none⟩ ∧ b < w.heap.size ∧ ∀ j (h : j < l.length), w.cell? ⟨b, off + j, none⟩ = some (bv l[j]))
theorem own_snoc {w : World} {base : Nat} {e : TypeId} {v : Value} {l : List UInt8} {c : UInt8} (h : w.ownsRow base e 1 v (l.length + 1) (bvs l ++ [Value.int .u8 (c.toNat : Int)])) :
    w.ownsRow base e 1 v (l ++ [c]).length (bvs (l ++ [c])) := by
  rw [bvs_append, List.length_append]; exact h
theorem own_cat {w : World} {base : Nat} {e : TypeId} {v : Value} {l m : List UInt8} (h : w.ownsRow base e 1 v (l.length + m.length) (bvs l ++ bvs m)) :
    w.ownsRow base e 1 v (l ++ m).length (bvs (l ++ m)) := by
  rw [bvs_append, List.length_append]; exact h
def RR (w : World) (v : Value) (rs : List (ByteArray × List UInt8)) : Prop :=
  ∃ A c, v = .slice A rs.length c ∧ rs.length ≤ c ∧ c ≤ maxLen ∧ (rs = [] ∨ ∃ b off, A = some ⟨b, off, none⟩ ∧ b < w.heap.size ∧
    ∀ j (h : j < rs.length), w.cell? ⟨b, off + j * 2, none⟩ = some (.string rs[j].1) ∧ ∃ u, w.cell? ⟨b, off + j * 2 + 1, none⟩ = some u ∧ RB w u rs[j].2)
def NewB (e : TypeId) (w : World) (l : List UInt8) (x : Ending) (w' : World) : Prop :=
  ∃ v, x = .returned v ∧ w'.ownsRow w.heap.size e 1 v l.length (bvs l) ∧ Below w.heap.size w w'
theorem RB.keep {w w' : World} {v : Value} {l : List UInt8} (h : RB w v l) (hs : w.heap.size ≤ w'.heap.size) (hc : ∀ b o, b < w.heap.size → w'.cell? ⟨b, o, none⟩ = w.cell? ⟨b, o, none⟩) : RB w' v l := by
  obtain ⟨A, c, rfl, h1, h2, h3⟩ := h
  refine ⟨A, c, rfl, h1, h2, ?_⟩
  rcases h3 with h3 | ⟨b, off, rfl, hb, hcell⟩
  · exact .inl h3
  · exact .inr ⟨b, off, rfl, by omega, fun j hj => (hc b _ hb).trans (hcell j hj)⟩
theorem RB.below {w w' : World} {v : Value} {l : List UInt8} (h : RB w v l) (hb : Below w.heap.size w w') : RB w' v l :=
  h.keep hb.size fun _ _ hlt => hb.cell (p := ⟨_, _, none⟩) hlt
theorem RB.drew {w : World} {v : Value} {l : List UInt8} (h : RB w v l) : RB w.drew v l := h
theorem RB.alloc {w : World} {v : Value} {l : List UInt8} (h : RB w v l) (o : Obj) : RB (w.alloc o) v l := h.below ((Below.refl _ _).alloc (Nat.le_refl _) o)
theorem RB.nil_ (w : World) : RB w (.slice none 0 0) [] := ⟨none, 0, rfl, Nat.zero_le _, Nat.zero_le _, .inl rfl⟩
theorem RB.own {w : World} {base : Nat} {e : TypeId} {v : Value} {l : List UInt8} (h : w.ownsRow base e 1 v l.length (bvs l)) : RB w v l := by
  rcases h.2 with ⟨rfl, h0⟩ | ⟨g, cap, cur, rfl, hb, hg, hnc, hcm, _⟩
  · have : l = [] := List.eq_nil_of_length_eq_zero h0
    subst this
    exact RB.nil_ w
  · refine ⟨some ⟨g, 0, none⟩, cap, rfl, hnc, hcm, .inr ⟨g, 0, rfl, (Array.getElem?_eq_some_iff.1 hg).1, fun j hj => ?_⟩⟩
    have := h.cells (g := g) rfl j (bv l[j]) (bvs_get hj)
    rw [Addr.add_lit] at this
    simpa using this
def FB (e : TypeId) (w : World) (base : Nat) (v : Value) (l : List UInt8) : Prop :=
  (v = .slice none 0 0 ∧ l = []) ∨ ∃ g c cur fr, v = .slice (some ⟨g, 0, none⟩) l.length c ∧ base ≤ g ∧ w.heap[g]? = some (.cells cur e fr) ∧ l.length ≤ c ∧ c ≤ maxLen ∧ cur.toList.take l.length = bvs l
theorem FB.rb {e : TypeId} {w : World} {base : Nat} {v : Value} {l : List UInt8} (h : FB e w base v l) : RB w v l := by
  rcases h with ⟨rfl, rfl⟩ | ⟨g, c, cur, fr, rfl, hb, hg, hc, hm, ht⟩
  · exact RB.nil_ w
  · refine ⟨some ⟨g, 0, none⟩, c, rfl, hc, hm, .inr ⟨g, 0, rfl, (Array.getElem?_eq_some_iff.1 hg).1, fun j hj => ?_⟩⟩
    rw [Nat.zero_add, cell_of_row w g j cur e fr hg]
    have h1 := bvs_get hj
    rw [← ht, List.getElem?_take, if_pos hj] at h1
    simpa using h1
theorem FB.shape {e : TypeId} {w : World} {base : Nat} {v : Value} {l : List UInt8} (h : FB e w base v l) : ∃ A c, v = .slice A l.length c := by
  rcases h with ⟨rfl, rfl⟩ | ⟨g, c, cur, fr, rfl, _⟩
  · exact ⟨_, _, rfl⟩
  · exact ⟨_, _, rfl⟩
theorem FB.own {e : TypeId} {w : World} {base : Nat} {v : Value} {l : List UInt8} (h : w.ownsRow base e 1 v l.length (bvs l)) : FB e w base v l := by
  rcases h.2 with ⟨rfl, h0⟩ | ⟨g, cap, cur, rfl, hb, hg, hnc, hcm, _, ht⟩
  · exact .inl ⟨rfl, List.eq_nil_of_length_eq_zero h0⟩
  · exact .inr ⟨g, cap, cur, _, rfl, hb, hg, hnc, hcm, by simpa using ht⟩
theorem FB.base_ {e : TypeId} {w : World} {base base' : Nat} {v : Value} {l : List UInt8} (h : FB e w base v l) (hb : base' ≤ base) : FB e w base' v l := by
  rcases h with h | ⟨g, c, cur, fr, h1, h2, h3⟩
  · exact .inl h
  · exact .inr ⟨g, c, cur, fr, h1, by omega, h3⟩
theorem FB.block_ {e : TypeId} {w w' : World} {base : Nat} {v : Value} {l : List UInt8} (h : FB e w base v l)
    (hk : ∀ (g : Nat) (cur : Array Value) (fr : Nat × Nat), w.heap[g]? = some (Obj.cells cur e fr) → w'.heap[g]? = some (Obj.cells cur e fr)) : FB e w' base v l := by
  rcases h with h | ⟨g, c, cur, fr, h1, h2, h3, h4⟩
  · exact .inl h
  · exact .inr ⟨g, c, cur, fr, h1, h2, hk _ _ _ h3, h4⟩
theorem FB.below {e : TypeId} {w w' : World} {base : Nat} {v : Value} {l : List UInt8} (h : FB e w base v l) (hb : Below w.heap.size w w') : FB e w' base v l :=
  h.block_ fun g _ _ hg => (hb.block g (Array.getElem?_eq_some_iff.1 hg).1).trans hg
theorem FB.setCell {e : TypeId} {w : World} {base : Nat} {v : Value} {l : List UInt8} (h : FB e w base v l) {p : Addr} (hp : p.block < base) (u : Value) : FB e (w.setCell p u) base v l := by
  rcases h with h | ⟨g, c, cur, fr, h1, h2, h3, h4⟩
  · exact .inl h
  · exact .inr ⟨g, c, cur, fr, h1, h2, (Below.heap_setCell w p u g (by omega)).trans h3, h4⟩
theorem FB.grown {e e' : TypeId} {w w' : World} {base base' size n : Nat} {v r : Value} {l : List UInt8} {xs : List Value} (h : FB e w base v l) (hr : w.ownsRow base' e' size r n xs) (hne : e ≠ e')
    (hg : w.grownBy w' r.ownBlock) : FB e w' base v l :=
  h.block_ fun g cur fr hh => (hg.block g (Array.getElem?_eq_some_iff.1 hh).1 (fun he => by
    rcases hr.2 with ⟨rfl, _⟩ | ⟨g', cap, cur', rfl, _, hg', _⟩
    · simp [Value.ownBlock] at he
    · simp [Value.ownBlock] at he
      subst he
      rw [hh] at hg'
      injection hg' with hg'
      injection hg' with _ h2 _
      exact hne h2)).trans hh
section
variable {P : Program}
theorem RB.src {w : World} {v : Value} {l : List UInt8} (h : RB w v l) {tx e' : TypeId} (hk : P.underlying tx = some (.slice e')) : Src P 1 tx v l.length (bvs l) w := by
  obtain ⟨A, c, rfl, h1, h2, h3⟩ := h
  rcases h3 with rfl | ⟨b, off, rfl, hb, hcell⟩
  · cases A with
    | none => exact Src.ofNil w hk c
    | some a => exact Src.ofSlice w hk a 0 c [] rfl (fun j u hj => by simp at hj) (fun u hu => by cases hu)
  · refine Src.ofSlice w hk ⟨b, off, none⟩ l.length c (bvs l) (by simp [bvs_length]) (fun j u hj => ?_) bvs_one
    have hj' : j < l.length := by have := (List.getElem?_eq_some_iff.1 hj).1; simpa [bvs_length] using this
    rw [bvs_get hj'] at hj
    have hu : u = bv l[j] := by simpa using hj.symm
    subst hu
    have := hcell j hj'
    by_cases h0 : j = 0
    · subst h0; simpa [Addr.add] using this
    · simpa [Addr.add, h0] using this
theorem RB.str {w : World} {v : Value} {l : List UInt8} (h : RB w v l) {src dst e : TypeId} (hs : P.underlying src = some (.slice e)) (he : P.underlying e = some (.int .u8)) (hd : P.underlying dst = some .string) :
    (convert src dst v).run P w = .ok (.string ⟨l.toArray⟩) w := by
  obtain ⟨A, c, rfl, h1, h2, h3⟩ := h
  rcases h3 with rfl | ⟨b, off, rfl, hb, hcell⟩
  · cases A with
    | none => rw [run_convert_bytes_string w src dst e none _ c hs he hd]; rfl
    | some a => exact run_convert_bytes_back w src dst e a c [] hs he hd (fun j hj => by simp at hj)
  · exact run_convert_bytes_back w src dst e ⟨b, off, none⟩ c l hs he hd (fun j hj => by rw [Addr.add_lit]; exact hcell j hj)
theorem RB.cut {w : World} {b off c q n : Nat} {l : List UInt8} (h : RB w (.slice (some ⟨b, off, none⟩) l.length c) l) (hq : q + n ≤ l.length) :
    RB w (.slice (some ⟨b, off + q, none⟩) n (c - q)) ((l.drop q).take n) := by
  obtain ⟨A, c', he, h1, h2, h3⟩ := h
  injection he with e1 _ e3
  subst e1
  subst e3
  have hl : ((l.drop q).take n).length = n := by rw [List.length_take, List.length_drop]; omega
  refine ⟨some ⟨b, off + q, none⟩, c - q, by rw [hl], by omega, by omega, ?_⟩
  rcases h3 with rfl | ⟨b', off', he, hb, hcell⟩
  · left; simp
  · injection he with he
    injection he with e1 e2 _
    subst e1
    subst e2
    refine .inr ⟨b, off + q, rfl, hb, fun j hj => ?_⟩
    rw [hl] at hj
    rw [Nat.add_assoc, hcell (q + j) (by omega)]
    congr 1
    simp
theorem RB.head {w : World} {A : Option Addr} {c n : Nat} {l : List UInt8} (h : RB w (.slice A l.length c) l) (hq : n ≤ l.length) :
    RB w (.slice A n c) (l.take n) := by
  obtain ⟨A', c', he, h1, h2, h3⟩ := h
  injection he with e1 _ e3
  subst e1
  subst e3
  have hl : (l.take n).length = n := by rw [List.length_take]; omega
  refine ⟨A, c, by rw [hl], by omega, h2, ?_⟩
  rcases h3 with rfl | ⟨b, off, rfl, hb, hcell⟩
  · left; simp
  · refine .inr ⟨b, off, rfl, hb, fun j hj => ?_⟩
    rw [hl] at hj
    rw [hcell j (by omega)]
    congr 1
    simp
theorem src_one (w : World) {tx e' : TypeId} (hk : P.underlying tx = some (.slice e')) (e : TypeId) (u : Value) (h1 : u.oneCell' = true) : Src P 1 tx (.slice (some ⟨w.heap.size, 0, none⟩) 1 1) 1 [u] (w.alloc (.cells #[u] e)) := by
  refine Src.ofSlice _ hk ⟨w.heap.size, 0, none⟩ 1 1 [u] rfl (fun j x hj => ?_) (fun x hx => by simp at hx; subst hx; exact h1)
  match j, hj with
  | 0, hj => simp at hj; subst hj; simp [Addr.add]
theorem wpList_own {w : World} {ops : Array Oper} {rest : List Oper} {o : Oper} {a : Act} {Q : Exit → Act → World → Prop} (hgd : o.guard = none) (s x : Operand) (t tx : TypeId)
    (ho : o.op = .call { callee := .builtin .append, args := #[s, x], argTypes := #[t, tx] })
    (base : Nat) (e : TypeId) (z : Value) (size bytes : Nat) (ht : P.underlying t = some (.slice e)) (hinfo : (P.info? e).map (fun i => (i.zero, i.size, i.bytes)) = some (some z, size, bytes))
    (hzs : z.cells.size = size)
    {v : Value} {n : Nat} {xs : List Value} (hs : a.eval s = v) (hown : w.ownsRow base e size v n xs)
    {xv : Value} {m : Nat} {news : List Value} (hx : a.eval x = xv) (hsrc : Src P size tx xv m news w) {W : World} {B : Nat} (hbel : Below B W w) (hB : B ≤ base)
    (h63 : n + m ≤ maxLen) (hbytes : (n + m) * bytes ≤ 140737488355328) (hbase : base ≤ w.heap.size)
    (h : ∀ v' w', w'.ownsRow base e size v' (n + m) (xs ++ news) → Below B W w' → w.grownBy w' v.ownBlock → wpList P ops Q rest (a.put o.dst v') w') : wpList P ops Q (o :: rest) a w := by
  obtain ⟨i, hi, hz, hsz, hb⟩ := info_parts hinfo
  exact wpList_append_src hgd s x t tx ho base e i z size bytes ht hi hz hsz hb hzs hs hown hx hsrc h63 hbytes hbase fun v' w' h1 h2 _ =>
    h v' w' h1 (hbel.grown h2 (by omega) fun k hk => by have := (hown.lt k hk).1; omega) h2
theorem step_own {w : World} {ops : Array Oper} {o : Oper} {a : Act} {K : Act → World → Prop} {Q : Exit → Act → World → Prop} {E : Prop} (hgd : o.guard = none) (s x : Operand) (t tx : TypeId)
    (ho : o.op = .call { callee := .builtin .append, args := #[s, x], argTypes := #[t, tx] })
    (base : Nat) (e : TypeId) (z : Value) (size bytes : Nat) (ht : P.underlying t = some (.slice e)) (hinfo : (P.info? e).map (fun i => (i.zero, i.size, i.bytes)) = some (some z, size, bytes))
    (hzs : z.cells.size = size)
    {v : Value} {n : Nat} {xs : List Value} (hs : a.eval s = v) (hown : w.ownsRow base e size v n xs)
    {xv : Value} {m : Nat} {news : List Value} (hx : a.eval x = xv) (hsrc : Src P size tx xv m news w) {W : World} {B : Nat} (hbel : Below B W w) (hB : B ≤ base)
    (h63 : n + m ≤ maxLen) (hbytes : (n + m) * bytes ≤ 140737488355328) (hbase : base ≤ w.heap.size)
    (h : ∀ v' w', w'.ownsRow base e size v' (n + m) (xs ++ news) → Below B W w' → w.grownBy w' v.ownBlock → K (a.put o.dst v') w') :
    if Region.wanted o (yielded ops a.tmps) = true then Oper.wp P o a w K Q else E := by
  have hw : Region.wanted o (yielded ops a.tmps) = true := by simp [Region.wanted, hgd]
  rw [if_pos hw]
  obtain ⟨i, hi, hz, hsz, hb⟩ := info_parts hinfo
  exact wp_append_src s x t tx ho base e i z size bytes ht hi hz hsz hb hzs hs hown hx hsrc h63 hbytes hbase fun v' w' h1 h2 _ =>
    h v' w' h1 (hbel.grown h2 (by omega) fun k hk => by have := (hown.lt k hk).1; omega) h2
theorem own_below {w w' : World} {base : Nat} {e : TypeId} {size : Nat} {v : Value} {n : Nat} {xs : List Value} (h : w.ownsRow base e size v n xs) (hb : Below w.heap.size w w') : w'.ownsRow base e size v n xs := by
  refine ⟨h.1, ?_⟩
  rcases h.2 with h0 | ⟨g, cap, cur, rfl, hbg, hg, rest⟩
  · exact .inl h0
  · exact .inr ⟨g, cap, cur, rfl, hbg, (hb.block g (Array.getElem?_eq_some_iff.1 hg).1).trans hg, rest⟩
theorem own_base {w : World} {base base' : Nat} {e : TypeId} {size : Nat} {v : Value} {n : Nat} {xs : List Value} (h : w.ownsRow base e size v n xs) (hb : base' ≤ base) : w.ownsRow base' e size v n xs := by
  refine ⟨h.1, ?_⟩
  rcases h.2 with h0 | ⟨g, cap, cur, rfl, hbg, rest⟩
  · exact .inl h0
  · exact .inr ⟨g, cap, cur, rfl, by omega, rest⟩
theorem src_string {w : World} {tx : TypeId} (hk : P.underlying tx = some .string) (s : ByteArray) : Src P 1 tx (.string s) s.data.toList.length (bvs s.data.toList) w := by
  have := Src.ofString (P := P) w hk s
  have e : s.size = s.data.toList.length := by rw [Array.length_toList]; rfl
  rw [e] at this
  exact this
end
theorem own_shape {w : World} {base : Nat} {e : TypeId} {size : Nat} {v : Value} {n : Nat} {xs : List Value} (h : w.ownsRow base e size v n xs) : ∃ A c, v = .slice A n c ∧ n ≤ c := by
  rcases h.2 with ⟨rfl, rfl⟩ | ⟨g, cap, cur, rfl, _, _, hc, _⟩
  · exact ⟨_, _, rfl, Nat.le_refl _⟩
  · exact ⟨_, _, rfl, hc⟩
theorem RB.lit (w : World) (e : TypeId) (fr : Nat × Nat) (l : List UInt8) (cs : Array Value) (hcs : cs = (bvs l).toArray) (n : Nat) (hn : n = l.length) (hm : n ≤ 1000000) : RB (w.alloc (.cells cs e fr)) (.slice (some ⟨w.heap.size, 0, none⟩) n n) l := by
  subst hcs
  subst hn
  refine ⟨some ⟨w.heap.size, 0, none⟩, l.length, rfl, Nat.le_refl _, by unfold maxLen; omega, .inr ⟨w.heap.size, 0, rfl, by simp, fun j hj => ?_⟩⟩
  rw [Nat.zero_add, cell_of_row _ w.heap.size j (bvs l).toArray e fr (heap_alloc_new w _), List.getElem?_toArray, bvs_get hj]
def rowCells (us : List (ByteArray × List UInt8 × Value)) : List Value := us.flatMap fun x => [.string x.1, x.2.2]
theorem rowCells_length (us : List (ByteArray × List UInt8 × Value)) : (rowCells us).length = us.length * 2 := by
  induction us with
  | nil => rfl
  | cons x us ih => unfold rowCells at ih ⊢; rw [List.flatMap_cons, List.length_append, ih, List.length_cons]; simp; omega
theorem rowCells_get : ∀ (us : List (ByteArray × List UInt8 × Value)) (j : Nat) (h : j < us.length), (rowCells us)[j * 2]? = some (.string us[j].1) ∧ (rowCells us)[j * 2 + 1]? = some us[j].2.2
  | x :: us, 0, _ => by simp [rowCells]
  | x :: us, j + 1, h => by
    have ih := rowCells_get us j (by simpa using h)
    have e : rowCells (x :: us) = .string x.1 :: x.2.2 :: rowCells us := by simp [rowCells]
    rw [e, show (j + 1) * 2 = j * 2 + 1 + 1 from by omega, show j * 2 + 1 + 1 + 1 = (j * 2 + 1) + 1 + 1 from rfl]
    simpa using ih
def OR (e eR : TypeId) (w : World) (base : Nat) (v : Value) (rs : List (ByteArray × List UInt8)) : Prop :=
  ∃ us : List (ByteArray × List UInt8 × Value), us.map (fun x => (x.1, x.2.1)) = rs ∧ w.ownsRow base eR 2 v us.length (rowCells us) ∧ ∀ x ∈ us, FB e w base x.2.2 x.2.1
theorem OR.nil_ (e eR : TypeId) (w : World) (base : Nat) : OR e eR w base (.slice none 0 0) [] := ⟨[], rfl, World.ownsRow_nil _ _ _ _, fun _ h => by cases h⟩
theorem OR.rr {e eR : TypeId} {w : World} {base : Nat} {v : Value} {rs : List (ByteArray × List UInt8)} (h : OR e eR w base v rs) : RR w v rs := by
  obtain ⟨us, rfl, ho, hf⟩ := h
  rcases ho.2 with ⟨rfl, h0⟩ | ⟨g, cap, cur, rfl, hb, hg, hnc, hcm, hcs, ht⟩
  · have : us = [] := List.eq_nil_of_length_eq_zero h0
    subst this
    exact ⟨none, 0, rfl, Nat.le_refl _, Nat.zero_le _, .inl rfl⟩
  · refine ⟨some ⟨g, 0, none⟩, cap, by rw [List.length_map], by rw [List.length_map]; exact hnc, hcm, .inr ⟨g, 0, rfl, (Array.getElem?_eq_some_iff.1 hg).1, fun j hj => ?_⟩⟩
    rw [List.length_map] at hj
    have hc := rowCells_get us j hj
    have h1 := ho.cells (g := g) rfl _ _ hc.1
    have h2 := ho.cells (g := g) rfl _ _ hc.2
    rw [Addr.add_lit] at h1 h2
    refine ⟨by simpa using h1, us[j].2.2, by simpa [Nat.add_assoc] using h2, ?_⟩
    have := (hf us[j] (List.getElem_mem hj)).rb
    simpa using this
theorem OR.below {e eR : TypeId} {w w' : World} {base : Nat} {v : Value} {rs : List (ByteArray × List UInt8)} (h : OR e eR w base v rs) (hb : Below w.heap.size w w') : OR e eR w' base v rs := by
  obtain ⟨us, h1, ho, hf⟩ := h
  exact ⟨us, h1, own_below ho hb, fun x hx => (hf x hx).below hb⟩
theorem OR.base_ {e eR : TypeId} {w : World} {base base' : Nat} {v : Value} {rs : List (ByteArray × List UInt8)} (h : OR e eR w base v rs) (hb : base' ≤ base) : OR e eR w base' v rs := by
  obtain ⟨us, h1, ho, hf⟩ := h
  exact ⟨us, h1, own_base ho hb, fun x hx => (hf x hx).base_ hb⟩
theorem OR.setCell {e eR : TypeId} {w : World} {base : Nat} {v : Value} {rs : List (ByteArray × List UInt8)} (h : OR e eR w base v rs) {p : Addr} (hp : p.block < base) (u : Value) : OR e eR (w.setCell p u) base v rs := by
  obtain ⟨us, h1, ho, hf⟩ := h
  exact ⟨us, h1, ownsRow_setCell_below ho hp u, fun x hx => (hf x hx).setCell hp u⟩
theorem OR.alloc {e eR : TypeId} {w : World} {base : Nat} {v : Value} {rs : List (ByteArray × List UInt8)} (h : OR e eR w base v rs) (o : Obj) : OR e eR (w.alloc o) base v rs :=
  h.below ((Below.refl _ _).alloc (Nat.le_refl _) o)
theorem OR.push {e eR : TypeId} {w w' : World} {base : Nat} {v v' u : Value} {us : List (ByteArray × List UInt8 × Value)} {k : ByteArray} {l : List UInt8} (hne : e ≠ eR)
    (ho : w.ownsRow base eR 2 v us.length (rowCells us)) (hf : ∀ x ∈ us, FB e w base x.2.2 x.2.1) (hu : FB e w base u l)
    (ho' : w'.ownsRow base eR 2 v' (us.length + 1) (rowCells us ++ [.string k, u])) (hg : w.grownBy w' v.ownBlock) : OR e eR w' base v' (us.map (fun x => (x.1, x.2.1)) ++ [(k, l)]) := by
  refine ⟨us ++ [(k, l, u)], by simp, by unfold rowCells at ho' ⊢; rw [List.length_append, List.flatMap_append]; exact ho', fun x hx => ?_⟩
  rcases List.mem_append.1 hx with hx | hx
  · exact (hf x hx).grown ho hne hg
  · simp at hx
    subst hx
    exact hu.grown ho hne hg
end Go.Rst
namespace Go.Rst
theorem drop_cons {L rest : List UInt8} {q : Nat} {c : UInt8} (h : L.drop q = c :: rest) : q < L.length ∧ L.getD q 0 = c ∧ L.drop (q + 1) = rest := by
  have hl : q < L.length := by
    rcases Nat.lt_or_ge q L.length with h' | h'
    · exact h'
    · rw [List.drop_eq_nil_of_le h'] at h; cases h
  rw [List.drop_eq_getElem_cons hl] at h
  injection h with h1 h2
  exact ⟨hl, by rw [List.getD_eq_getElem?_getD, List.getElem?_eq_getElem hl, ← h1]; rfl, h2⟩
theorem gnumF_cons {L rest : List UInt8} {q : Nat} {c : UInt8} (h : L.drop q = c :: rest) (f i acc : Nat) :
    gnumF L (f + 1) i acc (q : Int) = if 128 ≤ c.toNat then gnumF L f (i + 1) (acc + c.toNat % 128 * 128 ^ i) ((q + 1 : Nat) : Int)
      else if (c.toNat = 0 ∧ 0 < i) ∨ 9007199254740992 < acc + c.toNat % 128 * 128 ^ i then (0, 0, 11) else (((acc + c.toNat % 128 * 128 ^ i : Nat) : Int), (q : Int) + 1, 0) := by
  obtain ⟨h1, h2, h3⟩ := drop_cons h
  rw [gnumF, if_neg (by omega), Int.toNat_natCast, h2]
  rfl
theorem byte_val {m : Nat} (h : m < 256) : (UInt8.ofNat m).toNat = m := by rw [UInt8.toNat_ofNat']; exact Nat.mod_eq_of_lt (by omega)
theorem gnumF_back : ∀ (f n i acc q : Nat) (L post : List UInt8), L.drop q = numL n ++ post → (numL n).length ≤ f → acc + n * 128 ^ i ≤ 9007199254740992 → (0 < n ∨ i = 0) →
    gnumF L f i acc (q : Int) = (((acc + n * 128 ^ i : Nat) : Int), ((q + (numL n).length : Nat) : Int), 0)
  | 0, n, i, acc, q, L, post, _, hf, _, _ => by have := numL_pos n; omega
  | f + 1, n, i, acc, q, L, post, h, hf, hm, hz => by
    by_cases hn : n < 128
    · rw [numL_lt hn] at h ⊢
      rw [gnumF_cons h, byte_val (by omega), Nat.mod_eq_of_lt hn, if_neg (by omega), if_neg (by omega)]
      simp
    · rw [numL_ge (by omega)] at h hf ⊢
      have hd := (drop_cons h).2.2
      rw [gnumF_cons h, byte_val (by omega), if_pos (by omega)]
      have e1 : (n % 128 + 128) % 128 = n % 128 := by omega
      have e2 : acc + n % 128 * 128 ^ i + n / 128 * 128 ^ (i + 1) = acc + n * 128 ^ i := by
        have h1 : n / 128 * 128 ^ (i + 1) = 128 * (n / 128) * 128 ^ i := by rw [Nat.pow_succ]; rw [Nat.mul_comm (128 ^ i) 128, ← Nat.mul_assoc, Nat.mul_comm (n / 128) 128]
        rw [h1, Nat.add_assoc, ← Nat.add_mul]
        congr 2
        omega
      rw [e1, gnumF_back f (n / 128) (i + 1) (acc + n % 128 * 128 ^ i) (q + 1) L post hd (by simpa using hf) (by rw [e2]; exact hm) (.inl (by omega)), e2]
      simp
      omega
theorem getNum_back {n q : Nat} {L post : List UInt8} (h : L.drop q = numL n ++ post) (hn : n ≤ 9007199254740992) : getNum L (q : Int) = ((n : Int), ((q + (numL n).length : Nat) : Int), 0) := by
  have := gnumF_back 8 n 0 0 q L post h (numL_len8 hn) (by simpa using hn) (.inr rfl)
  simpa [getNum] using this
def textL (s : List UInt8) : List UInt8 := numL s.length ++ s
theorem getText_back {s L post : List UInt8} {q : Nat} (h : L.drop q = textL s ++ post) (hs : s.length ≤ 1000000000) (most : Int) :
    getText L (q : Int) most = if most < (s.length : Int) then ([], 0, 3) else (s, ((q + (textL s).length : Nat) : Int), 0) := by
  have h0 : L.drop q = numL s.length ++ (s ++ post) := by rw [h, textL, List.append_assoc]
  have hg := getNum_back h0 (by omega)
  have hlen : L.length - q = (numL s.length).length + (s.length + post.length) := by
    have := congrArg List.length h0
    simpa using this
  have hpos := numL_pos s.length
  unfold getText
  rw [hg]
  simp only [ne_eq, not_true_eq_false, if_false]
  by_cases hm : most < (s.length : Int)
  · rw [if_pos hm, if_pos hm]
  · rw [if_neg hm, if_neg hm, if_neg (by omega)]
    have e : L.drop (q + (numL s.length).length) = s ++ post := by
      rw [← List.drop_drop, h0, List.drop_left]
    rw [Int.toNat_natCast, Int.toNat_natCast, e, List.take_left, textL, List.length_append]
    simp
    omega
def rowL (k l : List UInt8) : List UInt8 := textL k ++ textL l
theorem getText_spec (l : List UInt8) (p most : Int) : ((getText l p most).2.2 = 0 ∧ 0 ≤ (getText l p most).2.1 ∧ (getText l p most).2.1 ≤ l.length ∧ p < (getText l p most).2.1 ∧ 0 ≤ p ∧ ((getText l p most).1.length : Int) ≤ most ∧ (getText l p most).1.length ≤ l.length) ∨
    (((getText l p most).2.2 = 3 ∨ (getText l p most).2.2 = 10 ∨ (getText l p most).2.2 = 11) ∧ (getText l p most).1 = [] ∧ (getText l p most).2.1 = 0) := by
  have h := getNum_spec l p
  unfold getText
  split
  · rename_i hne
    rcases h with h | h
    · exact absurd h.1 hne
    · exact .inr ⟨by simp only []; omega, rfl, rfl⟩
  · rename_i hz
    rcases h with h | h
    · split
      · exact .inr ⟨.inl rfl, rfl, rfl⟩
      · split
        · exact .inr ⟨.inr (.inl rfl), rfl, rfl⟩
        · refine .inl ⟨rfl, by simp only []; omega, by simp only []; omega, by simp only []; omega, by omega, ?_, ?_⟩
          · simp only [List.length_take, List.length_drop]; omega
          · simp only [List.length_take, List.length_drop]; omega
    · exfalso; omega
end Go.Rst
set_option linter.unusedVariables false
namespace Go.Tp
open Go
abbrev sv (l : List UInt8) : Value := .string ⟨l.toArray⟩
def isW (c : UInt8) : Bool := (decide (97 ≤ c.toNat) && decide (c.toNat ≤ 122)) || (decide (48 ≤ c.toNat) && decide (c.toNat ≤ 57))
def wordB (l : List UInt8) : Bool := l.all isW && decide (0 < l.length)
def splitL (c : UInt8) : List UInt8 → List (List UInt8)
  | [] => [[]]
  | x :: xs => if x = c then [] :: splitL c xs else match splitL c xs with
    | [] => [[x]]
    | p :: ps => (x :: p) :: ps
theorem splitL_part (c : UInt8) (p : List UInt8) (hp : ∀ x ∈ p, x ≠ c) : ∀ l, splitL c (p ++ c :: l) = p :: splitL c l := by
  induction p with
  | nil => intro l; simp [splitL]
  | cons x xs ih =>
    intro l
    rw [List.cons_append, splitL, if_neg (hp x List.mem_cons_self), ih (fun y hy => hp y (List.mem_cons_of_mem _ hy))]
theorem splitL_last (c : UInt8) (p : List UInt8) (hp : ∀ x ∈ p, x ≠ c) : splitL c p = [p] := by
  induction p with
  | nil => rfl
  | cons x xs ih => rw [splitL, if_neg (hp x List.mem_cons_self), ih (fun y hy => hp y (List.mem_cons_of_mem _ hy))]
def rightB (l : List UInt8) : Bool := (splitL 47 l).all wordB && decide (l.length ≤ 30)
def patP : List (List UInt8) → Bool
  | [] => true
  | [p] => wordB p || decide (p = [43]) || decide (p = [35])
  | p :: ps => (wordB p || decide (p = [43])) && patP ps
def patB (l : List UInt8) : Bool := patP (splitL 47 l) && decide (l.length ≤ 30)
end Go.Tp
set_option linter.unusedVariables false
namespace Go.Proofs.YtmdkonfmbbbepaaDoor
open Go Go.RowKit Go.Rst
theorem wpList_max3 {P : Program} {w : World} {ops : Array Oper} {rest : List Oper} {o : Oper} {a : Act} {Q : Exit → Act → World → Prop} (hgd : o.guard = none) (x y : Operand) (ts : Array TypeId)
    (ho : o.op = .call { callee := .builtin .max, args := #[x, y], argTypes := ts }) {X Y n : Int} (hx : a.eval x = .int .i64 X) (hy : a.eval y = .int .i64 Y)
    (hn : (if Y > X then Y else X) = n) (h : wpList P ops Q rest (a.put o.dst (.int .i64 n)) w) : wpList P ops Q (o :: rest) a w := by
  refine wpList_plain hgd fun K hK => ?_
  unfold Oper.wp execOp
  simp only [ho, resolve, invoke, builtin, Sem.run_bind, Sem.run_pure, Result.andThen_ok, List.map_toArray, List.map_cons, List.map_nil, hx, hy, run_max_int2, hn]
  exact hK _ _ h
end Go.Proofs.YtmdkonfmbbbepaaDoor
namespace Go.Pg
open Go.Rst Go.Crc
abbrev Rw := ByteArray × List UInt8
def rowB (r : Rw) : List UInt8 := rowL r.1.data.toList r.2
def body : List Rw → List UInt8
  | [] => []
  | r :: rs => body rs ++ rowB r
def used (rs : List Rw) : Nat := rs.length + (body rs).length
def slot (rs : List Rw) : UInt8 := UInt8.ofNat (252 - (body rs).length)
def slots (rs : List Rw) : List UInt8 := (List.range rs.length).map fun j => slot (rs.take (j + 1))
end Go.Pg
namespace Go.Pg
open Go.Rst Go.Crc
theorem bl_irrefl : ∀ a : List UInt8, Op.bytesLess a a = false
  | [] => by simp [Op.bytesLess]
  | x :: a => by simp [Op.bytesLess, bl_irrefl a]
theorem bl_trans : ∀ a b c : List UInt8, Op.bytesLess a b = true → Op.bytesLess b c = true → Op.bytesLess a c = true
  | _, [], _, h, _ => by simp [Op.bytesLess] at h
  | _, _ :: _, [], _, h => by simp [Op.bytesLess] at h
  | [], _ :: _, _ :: _, _, _ => by simp [Op.bytesLess]
  | x :: a, y :: b, z :: c, h1, h2 => by
    simp only [Op.bytesLess, Bool.or_eq_true, decide_eq_true_eq, Bool.and_eq_true, beq_iff_eq] at h1 h2 ⊢
    rcases h1 with h1 | ⟨rfl, h1⟩
    · rcases h2 with h2 | ⟨rfl, h2⟩
      · exact .inl (UInt8.lt_trans h1 h2)
      · exact .inl h1
    · rcases h2 with h2 | ⟨rfl, h2⟩
      · exact .inl h2
      · exact .inr ⟨rfl, bl_trans a b c h1 h2⟩
def kl (r : Rw) : List UInt8 := r.1.toList
def lt (a b : Rw) : Prop := Op.bytesLess (kl a) (kl b) = true
def Sorted (l : List Rw) : Prop := l.Pairwise lt
theorem Sorted.at {l : List Rw} (h : Sorted l) {i j : Nat} (hij : i < j) (hj : j < l.length) : lt (l[i]'(by omega)) l[j] := List.pairwise_iff_getElem.1 h i j (by omega) hj hij
end Go.Pg
namespace Go.Rst
open Go.RowKit
abbrev Chg := ByteArray × List UInt8 × Bool
def chCells (us : List (Chg × Value)) : List Value := us.flatMap fun x => [.string x.1.1, x.2, .bool x.1.2.2]
def OC (e eR : TypeId) (w : World) (base : Nat) (v : Value) (rs : List Chg) : Prop :=
  ∃ us : List (Chg × Value), us.map (·.1) = rs ∧ w.ownsRow base eR 3 v us.length (chCells us) ∧ ∀ x ∈ us, FB e w base x.2 x.1.2.1
theorem OC.nil_ (e eR : TypeId) (w : World) (base : Nat) : OC e eR w base (.slice none 0 0) [] := ⟨[], rfl, World.ownsRow_nil _ _ _ _, fun _ h => by cases h⟩
theorem OC.below {e eR : TypeId} {w w' : World} {base : Nat} {v : Value} {rs : List Chg} (h : OC e eR w base v rs) (hb : Below w.heap.size w w') : OC e eR w' base v rs := by
  obtain ⟨us, h1, ho, hf⟩ := h
  exact ⟨us, h1, own_below ho hb, fun x hx => (hf x hx).below hb⟩
theorem OC.base_ {e eR : TypeId} {w : World} {base base' : Nat} {v : Value} {rs : List Chg} (h : OC e eR w base v rs) (hb : base' ≤ base) : OC e eR w base' v rs := by
  obtain ⟨us, h1, ho, hf⟩ := h
  exact ⟨us, h1, own_base ho hb, fun x hx => (hf x hx).base_ hb⟩
theorem OC.setCell {e eR : TypeId} {w : World} {base : Nat} {v : Value} {rs : List Chg} (h : OC e eR w base v rs) {p : Addr} (hp : p.block < base) (u : Value) : OC e eR (w.setCell p u) base v rs := by
  obtain ⟨us, h1, ho, hf⟩ := h
  exact ⟨us, h1, ownsRow_setCell_below ho hp u, fun x hx => (hf x hx).setCell hp u⟩
theorem OC.alloc {e eR : TypeId} {w : World} {base : Nat} {v : Value} {rs : List Chg} (h : OC e eR w base v rs) (o : Obj) : OC e eR (w.alloc o) base v rs :=
  h.below ((Below.refl _ _).alloc (Nat.le_refl _) o)
theorem OC.push {e eR : TypeId} {w w' : World} {base : Nat} {v v' u : Value} {us : List (Chg × Value)} {k : ByteArray} {l : List UInt8} {b : Bool} (hne : e ≠ eR)
    (ho : w.ownsRow base eR 3 v us.length (chCells us)) (hf : ∀ x ∈ us, FB e w base x.2 x.1.2.1) (hu : FB e w base u l)
    (ho' : w'.ownsRow base eR 3 v' (us.length + 1) (chCells us ++ [.string k, u, .bool b])) (hg : w.grownBy w' v.ownBlock) : OC e eR w' base v' (us.map (·.1) ++ [(k, l, b)]) := by
  refine ⟨us ++ [((k, l, b), u)], by simp, by unfold chCells at ho' ⊢; rw [List.length_append, List.flatMap_append]; exact ho', fun x hx => ?_⟩
  rcases List.mem_append.1 hx with hx | hx
  · exact (hf x hx).grown ho hne hg
  · simp at hx
    subst hx
    exact hu.grown ho hne hg
end Go.Rst
namespace Go.Pg
open Go.Rst Go.Crc
theorem ba_loop (bs : ByteArray) : ∀ (n i : Nat) (r : List UInt8), bs.size - i = n → ByteArray.toList.loop bs i r = r.reverse ++ bs.data.toList.drop i := by
  intro n
  induction n with
  | zero =>
    intro i r h
    unfold ByteArray.toList.loop
    have hs : bs.size = bs.data.toList.length := by rw [Array.length_toList]; rfl
    rw [if_neg (by omega), List.drop_eq_nil_of_le (by omega)]
    simp
  | succ n ih =>
    intro i r h
    unfold ByteArray.toList.loop
    have hs : bs.size = bs.data.toList.length := by rw [Array.length_toList]; rfl
    have hi : i < bs.data.toList.length := by omega
    rw [if_pos (by omega), ih (i+1) _ (by omega), List.drop_eq_getElem_cons hi]
    have hg : bs.get! i = bs.data.toList[i] := by
      show bs.data[i]! = _
      have : i < bs.data.size := by simpa using hi
      rw [getElem!_pos bs.data i this]
      simp
    simp [hg]
theorem ba_toList (bs : ByteArray) : bs.toList = bs.data.toList := by
  unfold ByteArray.toList
  rw [ba_loop bs _ 0 [] rfl]
  simp
theorem ba_ext {a b : ByteArray} (h : a.toList = b.toList) : a = b := by
  rw [ba_toList, ba_toList] at h
  cases a; cases b
  congr
  simpa using h
def cl (c d : Chg) : Prop := Op.bytesLess c.1.toList d.1.toList = true
end Go.Pg
