/-
  Plain mathematics: the keys of rows of schema 1 rise; a row is short; what may be is read as it was. No program.
-/
import Derived.Lib.Strings
import Derived.Test.YtmdkonfmbbbepaaDoorKUC
set_option linter.unusedVariables false
set_option linter.unusedVariables false
set_option linter.unusedSimpArgs false
namespace Go.On
open Go Go.Rst Go.Tp Go.Ts Go.Tk
theorem ky_list (t : UInt8) (id seq : Int) : (ky t id seq).toList = keyL 1 t id.toNat seq.toNat := by
  unfold ky
  rw [ByteArray.toList_eq]
theorem ky_less {t u : UInt8} {id s s' : Int} (hi : 0 ≤ id ∧ id ≤ 9999999999) (hs : 0 ≤ s ∧ s ≤ 9999999999) (hs' : 0 ≤ s' ∧ s' ≤ 9999999999) (h : t < u ∨ t = u ∧ s < s') : Op.bytesLess (ky t id s).toList (ky u id s').toList = true := by
  rw [ky_list, ky_list, key_less (by decide) (by decide) (by omega) (by omega) (by omega) (by omega)]
  simp only [Nat.lt_irrefl, decide_false, Bool.false_or, decide_true, Bool.true_and]
  rcases h with h | ⟨h, h2⟩
  · simp [h]
  · subst h
    simp only [decide_true, Bool.true_and]
    have : s.toNat < s'.toNat := by omega
    simp [this]
def Lt (a b : Rw) : Prop := Op.bytesLess a.1.toList b.1.toList = true
theorem ris_of {l : List Rw} (h : l.Pairwise Lt) : Ris l := fun i hi => List.pairwise_iff_getElem.1 h i (i + 1) (by omega) hi (Nat.lt_succ_self i)
def Tab (t : UInt8) (id : Int) (l : List Rw) : Prop := ∀ r ∈ l, ∃ s : Int, 0 ≤ s ∧ s ≤ 9999999999 ∧ r.1 = ky t id s ∧ r.2.length ≤ 150
theorem tab_app {t u : UInt8} {id : Int} {a b : List Rw} (hi : 0 ≤ id ∧ id ≤ 9999999999) (ha : Tab t id a) (hb : Tab u id b) (h : t < u) : ∀ x ∈ a, ∀ y ∈ b, Lt x y := by
  intro x hx y hy
  obtain ⟨s, h1, h2, h3, _⟩ := ha x hx
  obtain ⟨s', g1, g2, g3, _⟩ := hb y hy
  unfold Lt
  rw [h3, g3]
  exact ky_less hi ⟨h1, h2⟩ ⟨g1, g2⟩ (.inl h)
theorem nL_len (n : Int) : (nL n).length ≤ 8 := numL_len8 (clip_le n)
theorem textL_len8 {l : List UInt8} {n : Nat} (h : l.length ≤ n) (hn : n ≤ 127) : (textL l).length ≤ n + 1 := by
  unfold textL
  rw [List.length_append, numL_lt (by omega)]
  simp
  omega
theorem tab_acks {x : Sub} (h : BackOk x) : Tab 97 x.id (acksL x.id x.acks) := by
  intro r hr
  obtain ⟨n, hn, rfl⟩ := List.mem_map.1 hr
  exact ⟨n, (h.ack n hn).1, (h.ack n hn).2, rfl, by simp⟩
theorem tab_note {x : Sub} (h : BackOk x) : Tab 110 x.id (noteL x) := by
  intro r hr
  unfold noteL at hr
  split at hr
  · cases hr
  · rw [List.mem_singleton.1 hr]
    have := textL_len8 h.note (by omega)
    exact ⟨0, by omega, by omega, rfl, by show (textL x.note).length ≤ 150; omega⟩
theorem tab_want {x : Sub} (h : BackOk x) : Tab 119 x.id (wantL x) := by
  intro r hr
  unfold wantL at hr
  split at hr
  · cases hr
  · rw [List.mem_singleton.1 hr]
    have := textL_len8 h.want (by omega)
    exact ⟨0, by omega, by omega, rfl, by show (textL x.want).length ≤ 150; omega⟩
theorem tab_sub {x : Sub} (h : BackOk x) : Tab 115 x.id (subL x) := by
  intro r hr
  unfold subL at hr
  rw [List.mem_singleton.1 hr]
  have h1 := textL_len8 h.name (by omega)
  have h2 := textL_len8 h.topic (by omega)
  have h3 := nL_len x.lease
  have h4 := nL_len x.most
  have h5 := nL_len x.floor
  refine ⟨0, by omega, by omega, rfl, ?_⟩
  show (subV x).length ≤ 150
  unfold subV
  simp only [List.length_append]
  omega
theorem tab_que {x : Sub} (h : BackOk x) : Tab 113 x.id (queL x.id x.queue) := by
  intro r hr
  obtain ⟨m, hm, rfl⟩ := List.mem_map.1 hr
  obtain ⟨a, b, c, d, _⟩ := h.msg m hm
  have h1 := textL_len8 c (by omega)
  have h2 := textL_len8 d (by omega)
  have h3 := nL_len m.tries
  have h4 := nL_len m.til
  have h5 := nL_len (if m.dead then 1 else 0)
  refine ⟨m.seq, a, b, rfl, ?_⟩
  show (msgV m).length ≤ 150
  unfold msgV
  simp only [List.length_append]
  omega
theorem tab_ext {x : Sub} (h : BackOk x) : Tab 120 x.id (extL x.id x.queue) := by
  intro r hr
  obtain ⟨m, hm, rfl⟩ := List.mem_map.1 hr
  obtain ⟨a, b, _⟩ := h.msg m (List.mem_filter.1 hm).1
  have h3 := nL_len m.prio
  have h4 := nL_len (kindN m)
  refine ⟨m.seq, a, b, rfl, ?_⟩
  show (extraV m).length ≤ 150
  unfold extraV
  simp only [List.length_append]
  omega
theorem que_pair {x : Sub} (h : BackOk x) (l : List Msg) (hl : l.Sublist x.queue) (t : UInt8) (v : Msg → List UInt8) : (l.map fun m => ((ky t x.id m.seq, v m) : Rw)).Pairwise Lt := by
  rw [List.pairwise_map]
  have hs : l.Pairwise (fun a b => a.seq < b.seq) := (List.pairwise_map.1 h.queS).sublist hl
  refine hs.imp_of_mem fun {a b} ha hb hab => ?_
  obtain ⟨a1, a2, _⟩ := h.msg a (hl.subset ha)
  obtain ⟨b1, b2, _⟩ := h.msg b (hl.subset hb)
  exact ky_less h.id ⟨a1, a2⟩ ⟨b1, b2⟩ (.inr ⟨rfl, hab⟩)
theorem enc_pair {x : Sub} (h : BackOk x) : (enc1L x).Pairwise Lt := by
  unfold enc1L
  have ta := tab_acks h
  have tn := tab_note h
  have tq := tab_que h
  have ts := tab_sub h
  have tw := tab_want h
  have te := tab_ext h
  have pa : (acksL x.id x.acks).Pairwise Lt := by
    unfold acksL
    rw [List.pairwise_map]
    exact h.ackS.imp_of_mem fun {a b} ha hb hab => ky_less h.id (h.ack a ha) (h.ack b hb) (.inr ⟨rfl, hab⟩)
  have pn : (noteL x).Pairwise Lt := by unfold noteL; split <;> simp
  have pq : (queL x.id x.queue).Pairwise Lt := que_pair h x.queue (List.Sublist.refl _) 113 msgV
  have ps : (subL x).Pairwise Lt := by unfold subL; simp
  have pw : (wantL x).Pairwise Lt := by unfold wantL; split <;> simp
  have pe : (extL x.id x.queue).Pairwise Lt := que_pair h _ List.filter_sublist 120 extraV
  have mem : ∀ {a b c : List Rw} {P : Rw → Prop}, (∀ r ∈ a, P r) → (∀ r ∈ b, P r) → ∀ r ∈ a ++ b, P r := fun h1 h2 r hr => (List.mem_append.1 hr).elim (h1 r) (h2 r)
  rw [List.pairwise_append, List.pairwise_append, List.pairwise_append, List.pairwise_append, List.pairwise_append]
  refine ⟨⟨⟨⟨⟨pa, pn, tab_app h.id ta tn (by decide)⟩, pq, ?_⟩, ps, ?_⟩, pw, ?_⟩, pe, ?_⟩
  · intro r hr s hs
    rcases List.mem_append.1 hr with hr | hr
    · exact tab_app h.id ta tq (by decide) r hr s hs
    · exact tab_app h.id tn tq (by decide) r hr s hs
  · intro r hr s hs
    rcases List.mem_append.1 hr with hr | hr
    · rcases List.mem_append.1 hr with hr | hr
      · exact tab_app h.id ta ts (by decide) r hr s hs
      · exact tab_app h.id tn ts (by decide) r hr s hs
    · exact tab_app h.id tq ts (by decide) r hr s hs
  · intro r hr s hs
    rcases List.mem_append.1 hr with hr | hr
    · rcases List.mem_append.1 hr with hr | hr
      · rcases List.mem_append.1 hr with hr | hr
        · exact tab_app h.id ta tw (by decide) r hr s hs
        · exact tab_app h.id tn tw (by decide) r hr s hs
      · exact tab_app h.id tq tw (by decide) r hr s hs
    · exact tab_app h.id ts tw (by decide) r hr s hs
  · intro r hr s hs
    rcases List.mem_append.1 hr with hr | hr
    · rcases List.mem_append.1 hr with hr | hr
      · rcases List.mem_append.1 hr with hr | hr
        · rcases List.mem_append.1 hr with hr | hr
          · exact tab_app h.id ta te (by decide) r hr s hs
          · exact tab_app h.id tn te (by decide) r hr s hs
        · exact tab_app h.id tq te (by decide) r hr s hs
      · exact tab_app h.id ts te (by decide) r hr s hs
    · exact tab_app h.id tw te (by decide) r hr s hs
theorem enc_ris {x : Sub} (h : BackOk x) : Ris (enc1L x) := ris_of (enc_pair h)
theorem enc_dec {x : Sub} (h : BackOk x) : decD (enc1L x) = some x := by
  unfold decD
  rw [if_pos (enc_ris h), back_fold h]
  show (if enc1L x = enc1L x then some x else none) = some x
  rw [if_pos rfl]
theorem enc_rows {x : Sub} (h : BackOk x) : ∀ r ∈ enc1L x, ∃ (t : UInt8) (s : Int), 97 ≤ t.toNat ∧ t.toNat ≤ 122 ∧ 0 ≤ s ∧ s ≤ 9999999999 ∧ r.1 = ky t x.id s ∧ r.2.length ≤ 150 := by
  intro r hr
  have go : ∀ {t : UInt8} {l : List Rw}, Tab t x.id l → 97 ≤ t.toNat ∧ t.toNat ≤ 122 → r ∈ l → ∃ (t : UInt8) (s : Int), 97 ≤ t.toNat ∧ t.toNat ≤ 122 ∧ 0 ≤ s ∧ s ≤ 9999999999 ∧ r.1 = ky t x.id s ∧ r.2.length ≤ 150 := fun {t l} ht hb hm => by
    obtain ⟨s, a, b, c, d⟩ := ht r hm
    exact ⟨t, s, hb.1, hb.2, a, b, c, d⟩
  unfold enc1L at hr
  simp only [List.mem_append] at hr
  rcases hr with ((((hr | hr) | hr) | hr) | hr) | hr
  · exact go (tab_acks h) (by decide) hr
  · exact go (tab_note h) (by decide) hr
  · exact go (tab_que h) (by decide) hr
  · exact go (tab_sub h) (by decide) hr
  · exact go (tab_want h) (by decide) hr
  · exact go (tab_ext h) (by decide) hr
theorem enc_count (x : Sub) : 1 + x.queue.length ≤ (enc1L x).length := by
  unfold enc1L queL subL
  simp only [List.length_append, List.length_map, List.length_cons, List.length_nil]
  omega
theorem que_seq {x : Sub} {clock next : Int} : ∀ {a : Int} {q : List Msg}, queB x clock next a q = true → (q.map (·.seq)).Pairwise (· < ·) ∧ ∀ m ∈ q, a < m.seq ∧ m.seq < next ∧ msgB m x.lease x.most clock = true
  | _, [], _ => ⟨List.Pairwise.nil, fun m h => by cases h⟩
  | a, m :: q, h => by
    unfold queB at h
    simp only [Bool.and_eq_true, decide_eq_true_eq] at h
    obtain ⟨⟨⟨⟨h1, h2⟩, _⟩, h4⟩, h5⟩ := h
    obtain ⟨i1, i2⟩ := que_seq h5
    refine ⟨?_, fun k hk => ?_⟩
    · rw [List.map_cons, List.pairwise_cons]
      refine ⟨fun s hs => ?_, i1⟩
      obtain ⟨k, hk, rfl⟩ := List.mem_map.1 hs
      exact (i2 k hk).1
    · rcases List.mem_cons.1 hk with rfl | hk
      · exact ⟨h1, h2, h4⟩
      · have := i2 k hk
        exact ⟨by omega, this.2.1, this.2.2⟩
theorem ack_seq {next : Int} : ∀ {a : Int} {l : List Int}, ackB next a l = true → l.Pairwise (· < ·)
  | _, [], _ => List.Pairwise.nil
  | a, n :: l, h => by
    unfold ackB at h
    simp only [Bool.and_eq_true, decide_eq_true_eq] at h
    exact List.pairwise_cons.2 ⟨fun m hm => (ack_all h.2 m hm).1, ack_seq h.2⟩
theorem good_back {x : Sub} {clock next : Int} (h : goodB x clock next = true) (hn : next ≤ 1000000) (hc : 0 ≤ clock ∧ clock ≤ 1000000) (ht : x.topic.length ≤ 30) (hw : x.want.length ≤ 30) (hm : ∀ m ∈ x.queue, m.til ≤ 1000000000 ∧ m.attr.length ≤ 30) : BackOk x := by
  unfold goodB at h
  simp only [Bool.and_eq_true] at h
  obtain ⟨⟨hf, ha⟩, hq⟩ := h
  unfold fieldsB at hf
  simp only [Bool.and_eq_true, decide_eq_true_eq] at hf
  obtain ⟨⟨⟨⟨⟨⟨⟨⟨⟨⟨⟨⟨⟨f1, f2⟩, f3⟩, f4⟩, f5⟩, f6⟩, f7⟩, f8⟩, f9⟩, f10⟩, f11⟩, f12⟩, f13⟩, f14⟩ := hf
  unfold nameB at f3
  simp only [Bool.and_eq_true, decide_eq_true_eq] at f3
  obtain ⟨q1, q2⟩ := que_seq hq
  refine ⟨⟨by omega, by omega⟩, by omega, ht, hw, f13, ⟨by omega, by omega⟩, ⟨by omega, by omega⟩, ⟨by omega, by omega⟩, fun n hn' => ?_, ack_seq ha, fun m hm' => ?_, q1⟩
  · have := ack_all ha n hn'
    omega
  · obtain ⟨a1, a2, a3⟩ := q2 m hm'
    obtain ⟨m1, m2⟩ := hm m hm'
    unfold msgB at a3
    split at a3
    · cases a3
    · rename_i hb
      simp only [Bool.or_eq_true, decide_eq_true_eq, Bool.not_eq_true', not_or] at hb
      obtain ⟨⟨⟨b1, b2⟩, b3⟩, b4⟩ := hb
      refine ⟨by omega, by omega, by omega, m2, ?_, ?_, ⟨by omega, by omega⟩, ?_⟩
      · split at a3
        · simp only [Bool.and_eq_true, decide_eq_true_eq] at a3; omega
        · split at a3
          · cases a3
          · split at a3
            · simp only [Bool.and_eq_true, decide_eq_true_eq] at a3; omega
            · simp only [Bool.and_eq_true, decide_eq_true_eq] at a3; omega
      · split at a3
        · simp only [Bool.and_eq_true, decide_eq_true_eq] at a3; omega
        · split at a3
          · cases a3
          · split at a3
            · rename_i h0; omega
            · simp only [Bool.and_eq_true, decide_eq_true_eq] at a3; omega
      · unfold kindN
        split at a3
        · rename_i hd
          rw [if_pos hd]
          simp only [Bool.and_eq_true, Bool.or_eq_true, decide_eq_true_eq] at a3
          rcases a3.1.2 with hw | hw
          · rw [if_pos hw, hw]; rfl
          · rw [if_neg (by rw [hw]; decide), hw]; rfl
        · rename_i hd
          rw [if_neg hd]
          split at a3
          · cases a3
          · rename_i hw
            have : m.why = [] := Decidable.not_not.1 hw
            rw [this]; rfl
def k0S : Sub := ⟨1, [110], [35], [], 1, 1, 0, [], [], []⟩
theorem k0_back : BackOk k0S := ⟨by decide, by decide, by decide, by decide, by decide, by decide, by decide, by decide, fun n h => (by cases h), List.Pairwise.nil, fun m h => (by cases h), List.Pairwise.nil⟩
theorem k0_len : (enc1L k0S).length = 1 := rfl
theorem dec_nil : decD [] = none := by
  unfold decD
  split
  · show (if ([] : List Rw) = enc1L noSub then some noSub else none) = none
    rw [if_neg (fun h => enc_ne noSub h.symm)]
  · rfl
theorem back_enc {x : Sub} (h : BackOk x) (ha : x.acks.length ≤ 100000) (hq : x.queue.length ≤ 100000) : EncOk x := by
  have := h.name; have := h.topic; have := h.want; have := h.note
  refine ⟨h.id.1, h.id.2, by omega, by omega, by omega, by omega, ha, hq, h.ack, fun m hm => ?_⟩
  obtain ⟨a, b, c, d, _, _, _, e⟩ := h.msg m hm
  refine ⟨a, b, by omega, by omega, ?_⟩
  rw [← e]
  unfold whyN
  split
  · decide
  · split
    · decide
    · decide
end Go.On
