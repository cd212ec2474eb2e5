/-
  Plain mathematics of keys: ten digits, there and back, and their order. No program.; Plain mathematics of a subscription as rows of schema 1, and the way back. No program.; Plain mathematics: what was told by rows of schema 1 is read as it was; keys rise; no row is long. No program.
-/
import Derived.Lib.Atoi
import Derived.Lib.ItoaNum
import Derived.Test.YtmdkonfmbbbepaaDoorKUB
set_option linter.unusedVariables false
set_option linter.unusedVariables false
namespace Go.Tk
open Go
def pad : Nat → Nat → List UInt8
  | 0, _ => []
  | k + 1, n => pad k (n / 10) ++ [UInt8.ofNat (48 + n % 10)]
theorem pad_len : ∀ k n, (pad k n).length = k
  | 0, _ => rfl
  | k + 1, n => by simp [pad, pad_len k]
theorem dig_nat {d : Nat} (h : d < 10) : (UInt8.ofNat (48 + d)).toNat = 48 + d := by
  rw [UInt8.toNat_ofNat']
  omega
theorem dec_pad : ∀ k n, n < 10 ^ (k + 1) → List.replicate (k + 1 - (Lib.decDigits n).length) 48 ++ Lib.decDigits n = pad (k + 1) n
  | 0, n, h => by
    have h1 : n < 10 := by simpa using h
    rw [Lib.decDigits_one h1]
    simp [pad, Nat.mod_eq_of_lt h1]
  | k + 1, n, h => by
    by_cases hn : n < 10
    · have ih := dec_pad k 0 (Nat.pow_pos (by decide))
      rw [Lib.decDigits_one (by decide : 0 < 10)] at ih
      rw [Lib.decDigits_one hn]
      show _ = pad (k + 1) (n / 10) ++ [UInt8.ofNat (48 + n % 10)]
      rw [Nat.div_eq_of_lt hn, Nat.mod_eq_of_lt hn, ← ih]
      simp only [List.length_cons, List.length_nil, Nat.zero_add, Nat.add_sub_cancel, Nat.add_zero]
      rw [List.replicate_succ']
      rfl
    · have ih := dec_pad k (n / 10) (by rw [Nat.div_lt_iff_lt_mul (by decide)]; rw [Nat.pow_succ] at h; exact h)
      have hd : Lib.decDigits n = Lib.decDigits (n / 10) ++ [UInt8.ofNat (48 + n % 10)] := by rw [Lib.decDigits, dif_neg hn]
      show _ = pad (k + 1) (n / 10) ++ [UInt8.ofNat (48 + n % 10)]
      rw [hd, ← ih, List.length_append, List.length_singleton, show k + 1 + 1 - ((Lib.decDigits (n / 10)).length + 1) = k + 1 - (Lib.decDigits (n / 10)).length by omega, List.append_assoc]
theorem pad_digit : ∀ k n, ∀ b ∈ pad k n, 48 ≤ b.toNat ∧ b.toNat ≤ 57
  | 0, _, b, h => by cases h
  | k + 1, n, b, h => by
    rcases List.mem_append.1 h with h | h
    · exact pad_digit k _ b h
    · rw [List.mem_singleton.1 h, dig_nat (Nat.mod_lt _ (by decide))]
      omega
theorem decFrom_app : ∀ (l : List UInt8) (acc : Nat) (b : UInt8), Lib.decFrom acc (l ++ [b]) = (Lib.decFrom acc l).bind fun m => (Lib.digitVal b).map fun d => m * 10 + d
  | [], acc, b => by
    simp only [List.nil_append, Lib.decFrom, Option.bind_some]
    cases Lib.digitVal b <;> rfl
  | c :: l, acc, b => by
    rw [List.cons_append]
    simp only [Lib.decFrom]
    cases Lib.digitVal c with
    | none => rfl
    | some d => exact decFrom_app l _ b
theorem pad_from : ∀ k acc n, Lib.decFrom acc (pad k n) = some (acc * 10 ^ k + n % 10 ^ k)
  | 0, acc, n => by simp [pad, Lib.decFrom, Nat.mod_one]
  | k + 1, acc, n => by
    show Lib.decFrom acc (pad k (n / 10) ++ [UInt8.ofNat (48 + n % 10)]) = _
    rw [decFrom_app, pad_from k]
    have hd : Lib.digitVal (UInt8.ofNat (48 + n % 10)) = some (n % 10) := by
      have := dig_nat (Nat.mod_lt n (by decide : 0 < 10))
      have h10 := Nat.mod_lt n (by decide : 0 < 10)
      unfold Lib.digitVal
      rw [this, if_pos (by omega)]
      congr 1
      omega
    rw [hd, Option.bind_some, Option.map_some, Nat.pow_succ, Nat.mul_comm (10 ^ k) 10, Nat.mod_mul]
    congr 1
    have : acc * (10 * 10 ^ k) = 10 * (acc * 10 ^ k) := by rw [← Nat.mul_assoc, Nat.mul_comm acc 10, Nat.mul_assoc]
    rw [this]
    omega
theorem atoi_pad (k n : Nat) (h : n < 10 ^ (k + 1)) : Lib.atoi (pad (k + 1) n) = some (n : Int) := by
  have hl := pad_len (k + 1) n
  have hd := pad_digit (k + 1) n
  have hf := pad_from (k + 1) 0 n
  rw [Nat.mod_eq_of_lt h, Nat.zero_mul, Nat.zero_add] at hf
  cases hp : pad (k + 1) n with
  | nil => rw [hp] at hl; cases hl
  | cons b r =>
    rw [hp] at hd hf
    have hb := hd b List.mem_cons_self
    have h45 : (b == 45) = false := by rw [beq_eq_false_iff_ne]; intro e; subst e; have := hb.1; revert this; decide
    have h43 : (b == 43) = false := by rw [beq_eq_false_iff_ne]; intro e; subst e; have := hb.1; revert this; decide
    have hn : Lib.decNat (b :: r) = some n := by unfold Lib.decNat; simp [hf]
    simp only [Lib.atoi, h45, h43, hn]
    rfl
theorem less_app : ∀ {a b : List UInt8} (c d : List UInt8), a.length = b.length → Op.bytesLess (a ++ c) (b ++ d) = (Op.bytesLess a b || (a == b && Op.bytesLess c d))
  | [], [], c, d, _ => by simp [Op.bytesLess]
  | x :: a, y :: b, c, d, h => by
    have ih := less_app (a := a) (b := b) c d (by simpa using h)
    simp only [List.cons_append, Op.bytesLess, ih, List.cons_beq_cons]
    cases decide (x < y) <;> cases (x == y) <;> simp
theorem pad_inj : ∀ k {x y : Nat}, x < 10 ^ k → y < 10 ^ k → pad k x = pad k y → x = y := by
  intro k x y hx hy h
  have h1 := pad_from k 0 x
  have h2 := pad_from k 0 y
  rw [h, h2] at h1
  rw [Nat.mod_eq_of_lt hx, Nat.mod_eq_of_lt hy] at h1
  injection h1 with h1
  omega
theorem lt_dig {a b : Nat} (ha : a < 10) (hb : b < 10) : (UInt8.ofNat (48 + a) < UInt8.ofNat (48 + b)) ↔ a < b := by
  rw [UInt8.lt_iff_toNat_lt, dig_nat ha, dig_nat hb]
  omega
theorem eq_dig {a b : Nat} (ha : a < 10) (hb : b < 10) : (UInt8.ofNat (48 + a) = UInt8.ofNat (48 + b)) ↔ a = b := by
  constructor
  · intro h
    have := congrArg UInt8.toNat h
    rw [dig_nat ha, dig_nat hb] at this
    omega
  · intro h; rw [h]
theorem pad_less : ∀ k {x y : Nat}, x < 10 ^ k → y < 10 ^ k → Op.bytesLess (pad k x) (pad k y) = decide (x < y)
  | 0, x, y, hx, hy => by
    have : ¬ x < y := by simp at hx hy; omega
    simp [pad, Op.bytesLess, this]
  | k + 1, x, y, hx, hy => by
    have hx1 : x / 10 < 10 ^ k := by rw [Nat.div_lt_iff_lt_mul (by decide)]; rw [Nat.pow_succ] at hx; exact hx
    have hy1 : y / 10 < 10 ^ k := by rw [Nat.div_lt_iff_lt_mul (by decide)]; rw [Nat.pow_succ] at hy; exact hy
    show Op.bytesLess (pad k (x / 10) ++ [UInt8.ofNat (48 + x % 10)]) (pad k (y / 10) ++ [UInt8.ofNat (48 + y % 10)]) = _
    rw [less_app _ _ (by rw [pad_len, pad_len]), pad_less k hx1 hy1]
    have hd : Op.bytesLess [UInt8.ofNat (48 + x % 10)] [UInt8.ofNat (48 + y % 10)] = decide (x % 10 < y % 10) := by
      simp only [Op.bytesLess, Bool.and_false, Bool.or_false]
      exact decide_eq_decide.2 (lt_dig (Nat.mod_lt _ (by decide)) (Nat.mod_lt _ (by decide)))
    have he : (pad k (x / 10) == pad k (y / 10)) = decide (x / 10 = y / 10) := by
      rw [Bool.eq_iff_iff, beq_iff_eq, decide_eq_true_iff]
      exact ⟨fun h => pad_inj k hx1 hy1 h, fun h => by rw [h]⟩
    rw [hd, he, Bool.eq_iff_iff]
    simp only [Bool.or_eq_true, Bool.and_eq_true, decide_eq_true_eq]
    omega
def keyL (v : Nat) (t : UInt8) (id seq : Nat) : List UInt8 := [UInt8.ofNat (48 + v), t] ++ (pad 10 id ++ pad 10 seq)
theorem key_len (v : Nat) (t : UInt8) (id seq : Nat) : (keyL v t id seq).length = 22 := by simp [keyL, pad_len]
theorem key_less {i j x y m n : Nat} {t u : UInt8} (hi : i < 10) (hj : j < 10) (hx : x < 10 ^ 10) (hy : y < 10 ^ 10) (hm : m < 10 ^ 10) (hn : n < 10 ^ 10) :
    Op.bytesLess (keyL i t x m) (keyL j u y n) = (decide (i < j) || (decide (i = j) && (decide (t < u) || (decide (t = u) && (decide (x < y) || (decide (x = y) && decide (m < n))))))) := by
  unfold keyL
  rw [less_app _ _ (by rfl), less_app _ _ (by rw [pad_len, pad_len]), pad_less 10 hx hy, pad_less 10 hm hn]
  have hp : (pad 10 x == pad 10 y) = decide (x = y) := by
    rw [Bool.eq_iff_iff, beq_iff_eq, decide_eq_true_iff]
    exact ⟨fun h => pad_inj 10 hx hy h, fun h => by rw [h]⟩
  have h1 : decide (UInt8.ofNat (48 + i) < UInt8.ofNat (48 + j)) = decide (i < j) := decide_eq_decide.2 (lt_dig hi hj)
  have h2 : (UInt8.ofNat (48 + i) == UInt8.ofNat (48 + j)) = decide (i = j) := by
    rw [Bool.eq_iff_iff, beq_iff_eq, decide_eq_true_iff]
    exact eq_dig hi hj
  have h3 : (t == u) = decide (t = u) := by rw [Bool.eq_iff_iff, beq_iff_eq, decide_eq_true_iff]
  rw [hp]
  simp only [Op.bytesLess, List.cons_beq_cons, h1, h2, h3, Bool.and_false, Bool.or_false]
  rw [show (([] : List UInt8) == []) = true from rfl]
  generalize decide (i < j) = A
  generalize decide (i = j) = B
  generalize decide (t < u) = C
  generalize decide (t = u) = D
  generalize (decide (x < y) || decide (x = y) && decide (m < n)) = E
  cases A <;> cases B <;> cases C <;> cases D <;> cases E <;> rfl
end Go.Tk
set_option linter.unusedVariables false
namespace Go.On
open Go Go.Rst Go.Tp Go.Ts Go.Tk
abbrev Rw := ByteArray × List UInt8
def ky (t : UInt8) (id seq : Int) : ByteArray := ⟨(keyL 1 t id.toNat seq.toNat).toArray⟩
def nL (n : Int) : List UInt8 := numL (clip n)
def kindN (m : Msg) : Int := if m.dead then (if m.why = [110, 97, 99, 107] then 1 else 2) else 0
def acksL (id : Int) (l : List Int) : List Rw := l.map fun n => (ky 97 id n, [])
def noteL (x : Sub) : List Rw := if x.note = [] then [] else [(ky 110 x.id 0, textL x.note)]
def msgV (m : Msg) : List UInt8 := textL m.body ++ textL m.attr ++ nL m.tries ++ nL m.til ++ nL (if m.dead then 1 else 0)
def queL (id : Int) (q : List Msg) : List Rw := q.map fun m => (ky 113 id m.seq, msgV m)
def subV (x : Sub) : List UInt8 := textL x.name ++ textL x.topic ++ nL x.lease ++ nL x.most ++ nL x.floor
def subL (x : Sub) : List Rw := [(ky 115 x.id 0, subV x)]
def wantL (x : Sub) : List Rw := if x.want = [] then [] else [(ky 119 x.id 0, textL x.want)]
def extraV (m : Msg) : List UInt8 := nL m.prio ++ nL (kindN m)
def extB (m : Msg) : Bool := !(m.prio == 0) || m.dead
def extL (id : Int) (q : List Msg) : List Rw := (q.filter extB).map fun m => (ky 120 id m.seq, extraV m)
def enc1L (x : Sub) : List Rw := acksL x.id x.acks ++ noteL x ++ queL x.id x.queue ++ subL x ++ wantL x ++ extL x.id x.queue
theorem acks_snoc (id : Int) (l : List Int) (n : Int) : acksL id (l ++ [n]) = acksL id l ++ [(ky 97 id n, [])] := by simp [acksL]
theorem que_snoc (id : Int) (q : List Msg) (m : Msg) : queL id (q ++ [m]) = queL id q ++ [(ky 113 id m.seq, msgV m)] := by simp [queL]
theorem ext_snoc (id : Int) (q : List Msg) (m : Msg) : extL id (q ++ [m]) = extL id q ++ (if extB m then [(ky 120 id m.seq, extraV m)] else []) := by
  unfold extL
  rw [List.filter_append, List.map_append]
  by_cases h : extB m <;> simp [h]
structure EncOk (x : Sub) : Prop where
  id0 : 0 ≤ x.id
  id1 : x.id ≤ 9999999999
  name : x.name.length ≤ 300000
  topic : x.topic.length ≤ 300000
  want : x.want.length ≤ 300000
  note : x.note.length ≤ 300000
  acks : x.acks.length ≤ 100000
  queue : x.queue.length ≤ 100000
  ack : ∀ n ∈ x.acks, 0 ≤ n ∧ n ≤ 9999999999
  msg : ∀ m ∈ x.queue, 0 ≤ m.seq ∧ m.seq ≤ 9999999999 ∧ m.body.length ≤ 300000 ∧ m.attr.length ≤ 300000 ∧ m.why.length ≤ 300000
def txA (b : List UInt8) (at_ : Int) (most : Int) : List UInt8 × Int := ((getText b at_ most).1, (getText b at_ most).2.1)
def nmA (b : List UInt8) (at_ : Int) : Int × Int := ((getNum b at_).1, (getNum b at_).2.1)
def msgD (seq : Int) (b : List UInt8) : Msg :=
  let r1 := txA b 0 60
  let r2 := txA b r1.2 30
  let n1 := nmA b r2.2
  let n2 := nmA b n1.2
  let n3 := nmA b n2.2
  ⟨seq, r1.1, r2.1, n1.1, n2.1, n3.1 == 1, [], 0⟩
def subD (x : Sub) (b : List UInt8) : Sub :=
  let r1 := txA b 0 30
  let r2 := txA b r1.2 30
  let n1 := nmA b r2.2
  let n2 := nmA b n1.2
  let n3 := nmA b n2.2
  { x with name := r1.1, topic := r2.1, lease := n1.1, most := n2.1, floor := n3.1 }
def whyN (k : Int) : List UInt8 := if k = 1 then [110, 97, 99, 107] else if k = 2 then [116, 105, 109, 101] else []
def bsr (q : List Msg) (s : Int) : Nat → Nat → Nat → Nat
  | 0, i, _ => i
  | f + 1, i, j => if i < j then (if (q.getD ((i + j) / 2) ⟨0, [], [], 0, 0, false, [], 0⟩).seq < s then bsr q s f ((i + j) / 2 + 1) j else bsr q s f i ((i + j) / 2)) else i
def ixD (q : List Msg) (s : Int) : Nat := bsr q s q.length 0 q.length
def extD (q : List Msg) (seq : Int) (b : List UInt8) : List Msg :=
  match q[ixD q seq]? with
  | none => q
  | some m => if m.seq = seq then q.set (ixD q seq) { m with prio := (nmA b 0).1, why := whyN (nmA b (nmA b 0).2).1 } else q
def rdD (x : Sub) (t : UInt8) (seq : Int) (b : List UInt8) : Option Sub :=
  if t = 97 then some { x with acks := x.acks ++ [seq] }
  else if t = 110 then some { x with note := (txA b 0 30).1 }
  else if t = 113 then some { x with queue := x.queue ++ [msgD seq b] }
  else if t = 115 then some (subD x b)
  else if t = 119 then some { x with want := (txA b 0 30).1 }
  else if t = 120 then some { x with queue := extD x.queue seq b }
  else none
def IsKey (k : ByteArray) (p : Nat × UInt8 × Nat × Nat) : Prop := p.1 < 10 ∧ 97 ≤ p.2.1.toNat ∧ p.2.1.toNat ≤ 122 ∧ p.2.2.1 ≤ 9999999999 ∧ p.2.2.2 ≤ 9999999999 ∧ k = ⟨(keyL p.1 p.2.1 p.2.2.1 p.2.2.2).toArray⟩
open Classical in
noncomputable def keyD (k : ByteArray) : Option (Nat × UInt8 × Nat × Nat) := if h : ∃ p, IsKey k p then some (Classical.choose h) else none
theorem keyL_inj {v v' : Nat} {t t' : UInt8} {i i' s s' : Nat} (hv : v < 10) (hv' : v' < 10) (hi : i ≤ 9999999999) (hi' : i' ≤ 9999999999) (hs : s ≤ 9999999999) (hs' : s' ≤ 9999999999)
    (h : keyL v t i s = keyL v' t' i' s') : v = v' ∧ t = t' ∧ i = i' ∧ s = s' := by
  unfold keyL at h
  have h1 := List.append_inj h (by simp)
  have h2 := List.append_inj h1.2 (by rw [pad_len, pad_len])
  have h3 := h1.1
  injection h3 with h4 h5
  injection h5 with h5 _
  exact ⟨(eq_dig hv hv').1 h4, h5, pad_inj 10 (by omega) (by omega) h2.1, pad_inj 10 (by omega) (by omega) h2.2⟩
theorem keyD_spec {k : ByteArray} {p} (h : IsKey k p) : keyD k = some p := by
  have hx : ∃ p, IsKey k p := ⟨p, h⟩
  unfold keyD
  rw [dif_pos hx]
  have hc := Classical.choose_spec hx
  generalize Classical.choose hx = q at hc
  obtain ⟨h1, h2, h3, h4, h5, h6⟩ := h
  obtain ⟨g1, g2, g3, g4, g5, g6⟩ := hc
  have he : keyL p.1 p.2.1 p.2.2.1 p.2.2.2 = keyL q.1 q.2.1 q.2.2.1 q.2.2.2 := by
    have := h6.symm.trans g6
    injection this with this
    have := congrArg Array.toList this
    simpa using this
  obtain ⟨e1, e2, e3, e4⟩ := keyL_inj h1 g1 h4 g4 h5 g5 he
  obtain ⟨a, b, c, d⟩ := p
  obtain ⟨a', b', c', d'⟩ := q
  simp only at e1 e2 e3 e4
  subst e1; subst e2; subst e3; subst e4
  rfl
theorem keyD_none {k : ByteArray} (h : ¬ ∃ p, IsKey k p) : keyD k = none := by unfold keyD; rw [dif_neg h]
theorem keyD_some {k : ByteArray} {p} (h : keyD k = some p) : IsKey k p := by
  by_cases hx : ∃ p, IsKey k p
  · unfold keyD at h
    rw [dif_pos hx] at h
    injection h with h
    rw [← h]
    exact Classical.choose_spec hx
  · rw [keyD_none hx] at h
    cases h
noncomputable def stepD (x : Sub) (r : Rw) : Option Sub :=
  match keyD r.1 with
  | none => none
  | some p => rdD { x with id := p.2.2.1 } p.2.1 p.2.2.2 r.2
noncomputable def foldD : Sub → List Rw → Option Sub
  | x, [] => some x
  | x, r :: l => match stepD x r with
    | none => none
    | some y => foldD y l
def Ris (l : List Rw) : Prop := ∀ i (h : i + 1 < l.length), Op.bytesLess l[i].1.toList l[i + 1].1.toList = true
open Classical in
noncomputable def decD (l : List Rw) : Option Sub :=
  if Ris l then (match foldD noSub l with | none => none | some x => if l = enc1L x then some x else none) else none
theorem foldD_some {x y : Sub} {r : Rw} (l : List Rw) (h : stepD x r = some y) : foldD x (r :: l) = foldD y l := by
  show (match stepD x r with | none => none | some y => foldD y l) = _
  rw [h]
theorem foldD_none {x : Sub} {r : Rw} (l : List Rw) (h : stepD x r = none) : foldD x (r :: l) = none := by
  show (match stepD x r with | none => none | some y => foldD y l) = _
  rw [h]
theorem foldD_app : ∀ (x : Sub) (l m : List Rw), foldD x (l ++ m) = (foldD x l).bind fun y => foldD y m
  | x, [], m => rfl
  | x, r :: l, m => by
    rw [List.cons_append]
    cases h : stepD x r with
    | none => rw [foldD_none _ h, foldD_none _ h]; rfl
    | some y => rw [foldD_some _ h, foldD_some _ h]; exact foldD_app y l m
end Go.On
set_option linter.unusedVariables false
set_option linter.unusedSimpArgs false
namespace Go.On
open Go Go.Rst Go.Tp Go.Ts Go.Tk
structure BackOk (x : Sub) : Prop where
  id : 0 ≤ x.id ∧ x.id ≤ 9999999999
  name : x.name.length ≤ 30
  topic : x.topic.length ≤ 30
  want : x.want.length ≤ 30
  note : x.note.length ≤ 30
  lease : 0 ≤ x.lease ∧ x.lease ≤ 9007199254740992
  most : 0 ≤ x.most ∧ x.most ≤ 9007199254740992
  floor : 0 ≤ x.floor ∧ x.floor ≤ 9007199254740992
  ack : ∀ n ∈ x.acks, 0 ≤ n ∧ n ≤ 9999999999
  ackS : x.acks.Pairwise (· < ·)
  msg : ∀ m ∈ x.queue, 0 ≤ m.seq ∧ m.seq ≤ 9999999999 ∧ m.body.length ≤ 60 ∧ m.attr.length ≤ 30 ∧ (0 ≤ m.tries ∧ m.tries ≤ 9007199254740992) ∧ (0 ≤ m.til ∧ m.til ≤ 9007199254740992) ∧ (0 ≤ m.prio ∧ m.prio ≤ 9007199254740992) ∧ whyN (kindN m) = m.why
  queS : (x.queue.map (·.seq)).Pairwise (· < ·)
theorem clip_id {n : Int} (h : 0 ≤ n ∧ n ≤ 9007199254740992) : ((clip n : Nat) : Int) = n := by unfold clip; omega
theorem txA_back (pre s post : List UInt8) (most : Int) (hs : s.length ≤ 1000000000) (hm : (s.length : Int) ≤ most) :
    txA (pre ++ (textL s ++ post)) (pre.length : Int) most = (s, (((pre ++ textL s).length : Nat) : Int)) := by
  unfold txA
  rw [getText_back (List.drop_left) hs, if_neg (by omega)]
  simp
theorem nmA_back (pre : List UInt8) (n : Int) (post : List UInt8) (hn : 0 ≤ n ∧ n ≤ 9007199254740992) :
    nmA (pre ++ (nL n ++ post)) (pre.length : Int) = (n, (((pre ++ nL n).length : Nat) : Int)) := by
  unfold nmA nL
  rw [getNum_back (List.drop_left) (clip_le n), clip_id hn]
  simp
theorem tx0 (s post : List UInt8) (most : Int) (hs : s.length ≤ 1000000000) (hm : (s.length : Int) ≤ most) :
    txA (textL s ++ post) 0 most = (s, (((textL s).length : Nat) : Int)) := by
  have := txA_back [] s post most hs hm
  simpa using this
theorem nm0 (n : Int) (post : List UInt8) (hn : 0 ≤ n ∧ n ≤ 9007199254740992) :
    nmA (nL n ++ post) 0 = (n, (((nL n).length : Nat) : Int)) := by
  have := nmA_back [] n post hn
  simpa using this
theorem txA_one (s : List UInt8) (most : Int) (hs : s.length ≤ 1000000000) (hm : (s.length : Int) ≤ most) : (txA (textL s) 0 most).1 = s := by
  have := tx0 s [] most hs hm
  rw [List.append_nil] at this
  rw [this]
theorem msgD_back {m : Msg} (h : m.body.length ≤ 60 ∧ m.attr.length ≤ 30 ∧ (0 ≤ m.tries ∧ m.tries ≤ 9007199254740992) ∧ (0 ≤ m.til ∧ m.til ≤ 9007199254740992)) :
    msgD m.seq (msgV m) = { m with why := [], prio := 0 } := by
  obtain ⟨h1, h2, h3, h4⟩ := h
  have hd : (0 : Int) ≤ (if m.dead then (1 : Int) else 0) ∧ (if m.dead then (1 : Int) else 0) ≤ 9007199254740992 := by split <;> omega
  have e1 := tx0 m.body (textL m.attr ++ (nL m.tries ++ (nL m.til ++ nL (if m.dead then 1 else 0)))) 60 (by omega) (by omega)
  have e2 := txA_back (textL m.body) m.attr (nL m.tries ++ (nL m.til ++ nL (if m.dead then 1 else 0))) 30 (by omega) (by omega)
  have e3 := nmA_back (textL m.body ++ textL m.attr) m.tries (nL m.til ++ nL (if m.dead then 1 else 0)) h3
  have e4 := nmA_back (textL m.body ++ textL m.attr ++ nL m.tries) m.til (nL (if m.dead then 1 else 0)) h4
  have e5 := nmA_back (textL m.body ++ textL m.attr ++ nL m.tries ++ nL m.til) (if m.dead then 1 else 0) [] hd
  have hv : msgV m = textL m.body ++ (textL m.attr ++ (nL m.tries ++ (nL m.til ++ nL (if m.dead then 1 else 0)))) := by simp [msgV]
  simp only [List.append_assoc, List.append_nil] at e2 e3 e4 e5
  unfold msgD
  rw [hv]
  simp only [e1, e2, e3, e4, e5, List.append_assoc]
  cases m with
  | mk a b c d e f g h => cases f <;> simp
theorem subD_back {x y : Sub} (h : BackOk x) : subD y (subV x) = { y with name := x.name, topic := x.topic, lease := x.lease, most := x.most, floor := x.floor } := by
  have h1 := h.name
  have h2 := h.topic
  have e1 := tx0 x.name (textL x.topic ++ (nL x.lease ++ (nL x.most ++ nL x.floor))) 30 (by omega) (by omega)
  have e2 := txA_back (textL x.name) x.topic (nL x.lease ++ (nL x.most ++ nL x.floor)) 30 (by omega) (by omega)
  have e3 := nmA_back (textL x.name ++ textL x.topic) x.lease (nL x.most ++ nL x.floor) h.lease
  have e4 := nmA_back (textL x.name ++ textL x.topic ++ nL x.lease) x.most (nL x.floor) h.most
  have e5 := nmA_back (textL x.name ++ textL x.topic ++ nL x.lease ++ nL x.most) x.floor [] h.floor
  have hv : subV x = textL x.name ++ (textL x.topic ++ (nL x.lease ++ (nL x.most ++ nL x.floor))) := by simp [subV]
  simp only [List.append_assoc, List.append_nil] at e2 e3 e4 e5
  unfold subD
  rw [hv]
  simp only [e1, e2, e3, e4, e5, List.append_assoc]
theorem kind_bound (m : Msg) : 0 ≤ kindN m ∧ kindN m ≤ 9007199254740992 := by unfold kindN; split <;> (try split) <;> omega
theorem extV_back {m : Msg} (h : 0 ≤ m.prio ∧ m.prio ≤ 9007199254740992) : (nmA (extraV m) 0).1 = m.prio ∧ (nmA (extraV m) (nmA (extraV m) 0).2).1 = kindN m := by
  have e1 := nm0 m.prio (nL (kindN m)) h
  have e2 := nmA_back (nL m.prio) (kindN m) [] (kind_bound m)
  rw [List.append_nil] at e2
  unfold extraV
  rw [e1]
  exact ⟨rfl, by rw [e2]⟩
theorem bsr_found {q : List Msg} (hq : (q.map (·.seq)).Pairwise (· < ·)) {k : Nat} (hk : k < q.length) : ∀ f i j, i ≤ k → k ≤ j → j ≤ q.length → j - i ≤ f → bsr q q[k].seq f i j = k
  | 0, i, j, h1, h2, _, h3 => by unfold bsr; omega
  | f + 1, i, j, h1, h2, h4, h3 => by
    unfold bsr
    by_cases hij : i < j
    · rw [if_pos hij]
      have hh : (i + j) / 2 < q.length := by omega
      have hget : q.getD ((i + j) / 2) ⟨0, [], [], 0, 0, false, [], 0⟩ = q[(i + j) / 2] := by rw [List.getD_eq_getElem?_getD, List.getElem?_eq_getElem hh]; rfl
      rw [hget]
      have hp := List.pairwise_iff_getElem.1 hq
      by_cases hlt : (i + j) / 2 < k
      · have := hp ((i + j) / 2) k (by simpa using hh) (by simpa using hk) hlt
        simp only [List.getElem_map] at this
        rw [if_pos this]
        exact bsr_found hq hk f _ _ (by omega) h2 h4 (by omega)
      · have hn : ¬ q[(i + j) / 2].seq < q[k].seq := by
          rcases Nat.lt_or_ge k ((i + j) / 2) with hg | hg
          · have := hp k ((i + j) / 2) (by simpa using hk) (by simpa using hh) hg
            simp only [List.getElem_map] at this
            omega
          · have e : (i + j) / 2 = k := by omega
            simp only [e]; omega
        rw [if_neg hn]
        exact bsr_found hq hk f _ _ h1 (by omega) (by omega) (by omega)
    · rw [if_neg hij]; omega
theorem ix_found {q : List Msg} (hq : (q.map (·.seq)).Pairwise (· < ·)) {k : Nat} (hk : k < q.length) : ixD q q[k].seq = k := bsr_found hq hk _ _ _ (Nat.zero_le _) (by omega) (Nat.le_refl _) (by omega)
def bare (m : Msg) : Msg := { m with why := [], prio := 0 }
theorem bare_plain {m : Msg} (h : extB m = false) (hw : whyN (kindN m) = m.why) : bare m = m := by
  unfold extB at h
  simp only [Bool.or_eq_false_iff, Bool.not_eq_false', beq_iff_eq] at h
  have : kindN m = 0 := by unfold kindN; simp [h.2]
  rw [this] at hw
  have hw : [] = m.why := hw
  cases m
  simp only [bare] at *
  rw [h.1, ← hw]
theorem ext_one {a b : List Msg} {m : Msg} (hs : ((a ++ m :: b).map (·.seq)).Pairwise (· < ·)) (hp : 0 ≤ m.prio ∧ m.prio ≤ 9007199254740992) (hw : whyN (kindN m) = m.why) :
    extD (a ++ bare m :: b.map bare) m.seq (extraV m) = a ++ m :: b.map bare := by
  have hmap : ((a ++ bare m :: b.map bare).map (·.seq)) = ((a ++ m :: b).map (·.seq)) := by
    simp [bare, Function.comp_def]
  have hk : a.length < (a ++ bare m :: b.map bare).length := by simp
  have hx := ix_found (q := a ++ bare m :: b.map bare) (by rw [hmap]; exact hs) hk
  have hg : (a ++ bare m :: b.map bare)[a.length] = bare m := by simp
  rw [hg] at hx
  have hx : ixD (a ++ bare m :: b.map bare) m.seq = a.length := hx
  obtain ⟨e1, e2⟩ := extV_back hp
  unfold extD
  rw [hx, List.getElem?_eq_getElem hk, hg]
  show (if (bare m).seq = m.seq then _ else _) = _
  rw [if_pos (show (bare m).seq = m.seq from rfl), e1, e2, hw]
  simp [bare]
theorem step_of (x : Sub) (t : UInt8) (id seq : Int) (v : List UInt8) (ht : 97 ≤ t.toNat ∧ t.toNat ≤ 122) (hi : 0 ≤ id ∧ id ≤ 9999999999) (hs : 0 ≤ seq ∧ seq ≤ 9999999999) :
    stepD x (ky t id seq, v) = rdD { x with id := id } t seq v := by
  have : IsKey (ky t id seq) (1, t, id.toNat, seq.toNat) := ⟨by show (1 : Nat) < 10; decide, ht.1, ht.2, by show id.toNat ≤ _; omega, by show seq.toNat ≤ _; omega, rfl⟩
  unfold stepD
  rw [keyD_spec this]
  show rdD { x with id := (id.toNat : Int) } t (seq.toNat : Int) v = _
  rw [show ((id.toNat : Nat) : Int) = id by omega, show ((seq.toNat : Nat) : Int) = seq by omega]
theorem step_id (x : Sub) (a : Int) (r : Rw) : stepD { x with id := a } r = stepD x r := rfl
theorem fold_acks (id : Int) (hi : 0 ≤ id ∧ id ≤ 9999999999) : ∀ (l : List Int) (y : Sub), y.id = id → (∀ n ∈ l, 0 ≤ n ∧ n ≤ 9999999999) → foldD y (acksL id l) = some { y with acks := y.acks ++ l }
  | [], y, _, _ => by simp [acksL, foldD]
  | n :: l, y, hy, h => by
    show foldD y ((ky 97 id n, []) :: acksL id l) = _
    rw [foldD_some (y := { y with id := id, acks := y.acks ++ [n] }) _ (step_of y 97 id n [] (by decide) hi (h n List.mem_cons_self))]
    rw [fold_acks id hi l _ rfl (fun k hk => h k (List.mem_cons_of_mem _ hk))]
    subst hy
    simp
theorem fold_que (id : Int) (hi : 0 ≤ id ∧ id ≤ 9999999999) : ∀ (l : List Msg) (y : Sub), y.id = id →
    (∀ m ∈ l, 0 ≤ m.seq ∧ m.seq ≤ 9999999999 ∧ m.body.length ≤ 60 ∧ m.attr.length ≤ 30 ∧ (0 ≤ m.tries ∧ m.tries ≤ 9007199254740992) ∧ (0 ≤ m.til ∧ m.til ≤ 9007199254740992)) →
    foldD y (queL id l) = some { y with queue := y.queue ++ l.map bare }
  | [], y, _, _ => by simp [queL, foldD]
  | m :: l, y, hy, h => by
    show foldD y ((ky 113 id m.seq, msgV m) :: queL id l) = _
    obtain ⟨h1, h2, h3⟩ := h m List.mem_cons_self
    rw [foldD_some (y := { y with id := id, queue := y.queue ++ [msgD m.seq (msgV m)] }) _ (step_of y 113 id m.seq _ (by decide) hi ⟨h1, h2⟩)]
    rw [msgD_back h3, fold_que id hi l _ rfl (fun k hk => h k (List.mem_cons_of_mem _ hk))]
    subst hy
    simp [bare]
theorem fold_ext (id : Int) (hi : 0 ≤ id ∧ id ≤ 9999999999) : ∀ (b a : List Msg) (y : Sub), y.id = id → y.queue = a ++ b.map bare → ((a ++ b).map (·.seq)).Pairwise (· < ·) →
    (∀ m ∈ b, 0 ≤ m.seq ∧ m.seq ≤ 9999999999 ∧ (0 ≤ m.prio ∧ m.prio ≤ 9007199254740992) ∧ whyN (kindN m) = m.why) → foldD y (extL id b) = some { y with queue := a ++ b }
  | [], a, y, hy, hq, hs, _ => by
    simp only [List.map_nil, List.append_nil] at hq
    simp [extL, foldD, ← hq]
  | m :: b, a, y, hy, hq, hs, h => by
    obtain ⟨h1, h2, h3, h4⟩ := h m List.mem_cons_self
    rw [List.map_cons] at hq
    have hs' : (((a ++ [m]) ++ b).map (·.seq)).Pairwise (· < ·) := by simpa using hs
    by_cases he : extB m = true
    · have e : extL id (m :: b) = (ky 120 id m.seq, extraV m) :: extL id b := by simp [extL, he]
      rw [e]
      rw [foldD_some (y := { y with id := id, queue := extD y.queue m.seq (extraV m) }) _ (step_of y 120 id m.seq _ (by decide) hi ⟨h1, h2⟩)]
      rw [hq, ext_one hs h3 h4, fold_ext id hi b (a ++ [m]) _ rfl (by simp) hs' (fun k hk => h k (List.mem_cons_of_mem _ hk))]
      subst hy
      simp
    · have he : extB m = false := by simpa using he
      have e : extL id (m :: b) = extL id b := by simp [extL, he]
      rw [e, fold_ext id hi b (a ++ [m]) y hy (by rw [hq, bare_plain he h4]; simp) hs' (fun k hk => h k (List.mem_cons_of_mem _ hk))]
      simp
theorem fold_id (x : Sub) (a : Int) {l : List Rw} (h : l ≠ []) : foldD { x with id := a } l = foldD x l := by
  cases l with
  | nil => exact absurd rfl h
  | cons r l =>
    cases h : stepD x r with
    | none => rw [foldD_none _ h, foldD_none _ ((step_id x a r).trans h)]
    | some y => rw [foldD_some _ h, foldD_some _ ((step_id x a r).trans h)]
theorem enc_ne (x : Sub) : enc1L x ≠ [] := by unfold enc1L subL; simp
theorem back_fold {x : Sub} (h : BackOk x) : foldD noSub (enc1L x) = some x := by
  rw [← fold_id noSub x.id (enc_ne x)]
  have hn : ∀ y : Sub, y.id = x.id → y.note = [] → foldD y (noteL x) = some { y with note := x.note } := by
    intro y hy hz
    unfold noteL
    split
    · rename_i h0
      simp [foldD, h0, ← hz]
    · rw [foldD_some (y := { y with id := x.id, note := (txA (textL x.note) 0 30).1 }) _ (step_of y 110 x.id 0 _ (by decide) h.id (by omega))]
      have h1 := h.note
      rw [txA_one _ _ (by omega) (by omega)]
      simp [foldD, ← hy]
  have hw : ∀ y : Sub, y.id = x.id → y.want = [] → foldD y (wantL x) = some { y with want := x.want } := by
    intro y hy hz
    unfold wantL
    split
    · rename_i h0
      simp [foldD, h0, ← hz]
    · rw [foldD_some (y := { y with id := x.id, want := (txA (textL x.want) 0 30).1 }) _ (step_of y 119 x.id 0 _ (by decide) h.id (by omega))]
      have h1 := h.want
      rw [txA_one _ _ (by omega) (by omega)]
      simp [foldD, ← hy]
  have hsub : ∀ y : Sub, y.id = x.id → foldD y (subL x) = some { y with name := x.name, topic := x.topic, lease := x.lease, most := x.most, floor := x.floor } := by
    intro y hy
    unfold subL
    rw [foldD_some (y := subD { y with id := x.id } (subV x)) _ (step_of y 115 x.id 0 _ (by decide) h.id (by omega))]
    rw [subD_back h]
    simp [foldD, ← hy]
  have e1 := fold_acks x.id h.id x.acks { noSub with id := x.id } rfl h.ack
  have e2 := hn { noSub with id := x.id, acks := x.acks } rfl rfl
  have e3 := fold_que x.id h.id x.queue { noSub with id := x.id, acks := x.acks, note := x.note } rfl (fun m hm => let ⟨a, b, c, d, e, f, _⟩ := h.msg m hm; ⟨a, b, c, d, e, f⟩)
  have e4 := hsub { noSub with id := x.id, acks := x.acks, note := x.note, queue := x.queue.map bare } rfl
  have e5 := hw { noSub with id := x.id, acks := x.acks, note := x.note, queue := x.queue.map bare, name := x.name, topic := x.topic, lease := x.lease, most := x.most, floor := x.floor } rfl rfl
  have e6 := fold_ext x.id h.id x.queue [] { noSub with id := x.id, acks := x.acks, note := x.note, queue := x.queue.map bare, name := x.name, topic := x.topic, lease := x.lease, most := x.most, floor := x.floor, want := x.want } rfl rfl (by simpa using h.queS) (fun m hm => let ⟨a, b, _, _, _, _, g, k⟩ := h.msg m hm; ⟨a, b, g, k⟩)
  unfold enc1L
  rw [foldD_app, foldD_app, foldD_app, foldD_app, foldD_app, e1, Option.bind_some]
  show (((((foldD { noSub with id := x.id, acks := x.acks } (noteL x)).bind _).bind _).bind _).bind _) = _
  rw [e2, Option.bind_some, e3, Option.bind_some]
  show (((foldD { noSub with id := x.id, acks := x.acks, note := x.note, queue := x.queue.map bare } (subL x)).bind _).bind _) = _
  rw [e4, Option.bind_some, e5, Option.bind_some, e6]
  rfl
end Go.On
