/-
  Words for the frame and the message while the statements' own Sub makes one (layer state).; The drawn region of the statements' own State (layer state).
-/
import Derived.Test.YtodckdkbheapfaaGreatKQI
import Derived.Test.YtodckdkbheapfaaGreatKQCH
import Derived.Deep.RegionHeld
set_option linter.unusedVariables false
set_option linter.unusedVariables false
set_option linter.unusedSimpArgs false
namespace Go.Proofs.YtodckdkbheapfaaGreat
open Go.RowKit Go.Rst Go.Tp Go.Ts Go.Inv
structure TF (L : List Value) (a : Act) (s : Int) (i : Nat) : Prop where
  size : a.tmps.size = 196
  defers : a.defers = []
  low : (((a.tmps.toList.take 53).set 10 undef).set 11 undef).set 12 undef = L
  t10 : a.tmps.getD 10 undef = .int .i64 s
  t11 : a.tmps.getD 11 undef = .int .i64 (i : Nat)
  t195 : a.tmps.getD 195 undef = undef
theorem getD_list (t : Array Value) (d : Nat) (h : d < t.size) : t.toList[d]'(by simpa using h) = t.getD d undef := by
  rw [Array.getD_eq_getD_getElem?, Array.getElem?_eq_getElem h]
  simp
theorem TF.keep {L : List Value} {a a' : Act} {s : Int} {i : Nat} (hsz : a'.tmps.size = 196) (hd : a'.defers = a.defers) (hr : ∀ d, d < 97 ∨ d = 195 → d ≠ 12 → a'.tmps.getD d undef = a.tmps.getD d undef) (h : TF L a s i) : TF L a' s i := by
  refine ⟨hsz, hd.trans h.defers, ?_, (hr 10 (by omega) (by omega)).trans h.t10, (hr 11 (by omega) (by omega)).trans h.t11, (hr 195 (by omega) (by omega)).trans h.t195⟩
  rw [← h.low]
  refine List.ext_getElem (by simp [hsz, h.size]) fun d h1 h2 => ?_
  have hd5 : d < 53 := by simp [hsz] at h1; omega
  by_cases e12 : d = 12
  · subst e12; simp
  have e := hr d (by omega) e12
  rw [← getD_list _ d (by omega), ← getD_list _ d (by have := h.size; omega)] at e
  simp only [List.getElem_set, List.getElem_take, e]
theorem TF.get {L : List Value} {a : Act} {s : Int} {i : Nat} (h : TF L a s i) {d : Nat} (hd : d < 53) (h1 : d ≠ 10) (h2 : d ≠ 11) (h3 : d ≠ 12) : a.tmps.getD d undef = L.getD d undef := by
  have hsz := h.size
  rw [← h.low, ← getD_list _ d (by omega), List.getD_eq_getElem?_getD, List.getElem?_eq_getElem (by simp [hsz]; omega)]
  simp [List.getElem_set, List.getElem_take, Ne.symm h1, Ne.symm h2, Ne.symm h3]
theorem TF.lit {L : List Value} {a : Act} {s : Int} {i b2 : Nat} (h : TF L a s i) (h12 : a.tmps.getD 12 undef = .pointer (some ⟨b2, 0, none⟩)) : ∃ ys : List Value, ys.length = 143 ∧ ys.getD 142 undef = undef ∧ a = { tmps := ((((L.set 10 (.int .i64 s)).set 11 (.int .i64 (i : Nat))).set 12 (.pointer (some ⟨b2, 0, none⟩))) ++ ys).toArray, defers := [] } := by
  refine ⟨a.tmps.toList.drop 53, by simp [h.size], ?_, ?_⟩
  · have hsz := h.size
    have := getD_list a.tmps 195 (by omega)
    rw [h.t195] at this
    rw [List.getD_eq_getElem?_getD, List.getElem?_drop, List.getElem?_eq_getElem (by simp [hsz])]
    simpa using this
  obtain ⟨t, df⟩ := a
  have hdf : df = [] := h.defers
  have hsz : t.size = 196 := h.size
  have hlow : (((t.toList.take 53).set 10 undef).set 11 undef).set 12 undef = L := h.low
  have g10 : t.getD 10 undef = .int .i64 s := h.t10
  have g11 : t.getD 11 undef = .int .i64 (i : Nat) := h.t11
  have g12 : t.getD 12 undef = .pointer (some ⟨b2, 0, none⟩) := h12
  subst hdf
  have e : t.toList.take 53 = ((L.set 10 (.int .i64 s)).set 11 (.int .i64 (i : Nat))).set 12 (.pointer (some ⟨b2, 0, none⟩)) := by
    rw [← hlow, ← g10, ← g11, ← g12]
    refine List.ext_getElem (by simp) fun d h1 h2 => ?_
    have hd5 : d < 53 := by simp [hsz] at h1; omega
    have e := getD_list t d (by omega)
    simp only [List.getElem_set, List.getElem_take]
    by_cases e12 : 12 = d
    · subst e12; simp [e]
    by_cases e11 : 11 = d
    · subst e11; simp [e]
    by_cases e10 : 10 = d
    · subst e10; simp [e]
    simp [e12, e11, e10]
  show (⟨t, []⟩ : Act) = ⟨_, []⟩
  rw [← e, List.take_append_drop]
set_option maxRecDepth 100000 in
theorem TF.elim {L : List Value} {a : Act} {s : Int} {i b2 : Nat} {motive : Act → Prop} (h : TF L a s i) (h12 : a.tmps.getD 12 undef = .pointer (some ⟨b2, 0, none⟩)) (H : ∀ y53 y54 y55 y56 y57 y58 y59 y60 y61 y62 y63 y64 y65 y66 y67 y68 y69 y70 y71 y72 y73 y74 y75 y76 y77 y78 y79 y80 y81 y82 y83 y84 y85 y86 y87 y88 y89 y90 y91 y92 y93 y94 y95 y96 y97 y98 y99 y100 y101 y102 y103 y104 y105 y106 y107 y108 y109 y110 y111 y112 y113 y114 y115 y116 y117 y118 y119 y120 y121 y122 y123 y124 y125 y126 y127 y128 y129 y130 y131 y132 y133 y134 y135 y136 y137 y138 y139 y140 y141 y142 y143 y144 y145 y146 y147 y148 y149 y150 y151 y152 y153 y154 y155 y156 y157 y158 y159 y160 y161 y162 y163 y164 y165 y166 y167 y168 y169 y170 y171 y172 y173 y174 y175 y176 y177 y178 y179 y180 y181 y182 y183 y184 y185 y186 y187 y188 y189 y190 y191 y192 y193 y194 : Value, motive { tmps := ((((L.set 10 (.int .i64 s)).set 11 (.int .i64 (i : Nat))).set 12 (.pointer (some ⟨b2, 0, none⟩))) ++ [y53, y54, y55, y56, y57, y58, y59, y60, y61, y62, y63, y64, y65, y66, y67, y68, y69, y70, y71, y72, y73, y74, y75, y76, y77, y78, y79, y80, y81, y82, y83, y84, y85, y86, y87, y88, y89, y90, y91, y92, y93, y94, y95, y96, y97, y98, y99, y100, y101, y102, y103, y104, y105, y106, y107, y108, y109, y110, y111, y112, y113, y114, y115, y116, y117, y118, y119, y120, y121, y122, y123, y124, y125, y126, y127, y128, y129, y130, y131, y132, y133, y134, y135, y136, y137, y138, y139, y140, y141, y142, y143, y144, y145, y146, y147, y148, y149, y150, y151, y152, y153, y154, y155, y156, y157, y158, y159, y160, y161, y162, y163, y164, y165, y166, y167, y168, y169, y170, y171, y172, y173, y174, y175, y176, y177, y178, y179, y180, y181, y182, y183, y184, y185, y186, y187, y188, y189, y190, y191, y192, y193, y194, undef]).toArray, defers := [] }) : motive a := by
  obtain ⟨ys, hyl, hlast, e⟩ := h.lit h12
  have e2 : ys = (List.range 143).map (fun k => if k = 142 then undef else ys.getD k undef) := List.ext_getElem (by simp [hyl]) (fun k h1 h2 => by
    rw [List.getElem_map, List.getElem_range]
    by_cases h : k = 142
    · subst h
      rw [if_pos rfl, ← hlast, List.getD_eq_getElem?_getD, List.getElem?_eq_getElem h1]
      rfl
    · rw [if_neg h]
      simp [h1])
  rw [e, e2]
  exact H _ _ _ _ _ _ _ _ _ _ _ _ _ _ _ _ _ _ _ _ _ _ _ _ _ _ _ _ _ _ _ _ _ _ _ _ _ _ _ _ _ _ _ _ _ _ _ _ _ _ _ _ _ _ _ _ _ _ _ _ _ _ _ _ _ _ _ _ _ _ _ _ _ _ _ _ _ _ _ _ _ _ _ _ _ _ _ _ _ _ _ _ _ _ _ _ _ _ _ _ _ _ _ _ _ _ _ _ _ _ _ _ _ _ _ _ _ _ _ _ _ _ _ _ _ _ _ _ _ _ _ _ _ _ _ _ _ _ _ _ _ _
structure MFs (w W4 wr : World) (b b2 : Nat) (x : Sub) (av qv : Value) (W : World) (m : Msg) : Prop where
  fm : Wh W b2 (msgC m) 45
  fx : Wh W b (subC x av qv) 30
  fa : OI W4.heap.size W av x.acks
  fq : OM W4.heap.size W qv x.queue
  fz : Wh W w.heap.size (subC noSub (.slice none 0 0) (.slice none 0 0)) 30
  fl : Below w.heap.size w W
  fs : W4.heap.size ≤ W.heap.size
  fc : Below wr.heap.size wr W
  fb : wr.heap.size ≤ b2
  bl : b < wr.heap.size
  wl : w.heap.size < wr.heap.size
  oa : ∀ k, av.ownBlock = some k → k < wr.heap.size
  oq : ∀ k, qv.ownBlock = some k → k < wr.heap.size
theorem MFs.below {w W4 wr : World} {b b2 : Nat} {x : Sub} {av qv : Value} {W W' : World} {m : Msg} (h : MFs w W4 wr b b2 x av qv W m) (hb : Below W.heap.size W W') : MFs w W4 wr b b2 x av qv W' m :=
  ⟨h.fm.below hb, h.fx.below hb, own_below h.fa hb, own_below h.fq hb, h.fz.below hb, h.fl.trans (hb.mono h.fl.size), Nat.le_trans h.fs hb.size, h.fc.trans (hb.mono h.fc.size), h.fb, h.bl, h.wl, h.oa, h.oq⟩
theorem MFs.set1 {w W4 wr : World} {b b2 : Nat} {x : Sub} {av qv : Value} {W : World} {m m' : Msg} (h : MFs w W4 wr b b2 x av qv W m) (k : Nat) (v : Value) (hm : (msgC m).set k v = msgC m') : MFs w W4 wr b b2 x av qv (W.setCell ⟨b2, k, none⟩ v) m' := by
  have hg := grown_cell W b2 k v
  have h1 := h.fb
  have h2 := h.bl
  have h3 := h.wl
  refine ⟨hm ▸ h.fm.set1 k v, h.fx.set1Other (by omega) k v, own_apart h.fa hg (fun j hj => by have := h.oa j hj; omega), own_apart h.fq hg (fun j hj => by have := h.oq j hj; omega), h.fz.set1Other (by omega) k v, h.fl.setCell (p := ⟨b2, k, none⟩) (show w.heap.size ≤ b2 by omega) v, Nat.le_trans h.fs hg.size, h.fc.setCell (p := ⟨b2, k, none⟩) (show wr.heap.size ≤ b2 from h1) v, h1, h2, h3, h.oa, h.oq⟩
end Go.Proofs.YtodckdkbheapfaaGreat
set_option linter.unusedVariables false
set_option linter.unusedSimpArgs false
namespace Go.Ts
structure Small (x : Sub) : Prop where
  al : x.acks.length ≤ 20
  ql : x.queue.length ≤ 30
  qm : ∀ m ∈ x.queue, m.til ≤ 1000000000 ∧ m.attr.length ≤ 30
  nl : x.name.length ≤ 20
  tl : x.topic.length ≤ 30
  wl : x.want.length ≤ 30
structure MadeS (c n l : Int) (xs : List Sub) : Prop where
  c0 : 0 ≤ c
  c1 : c ≤ 2000
  n0 : 1 ≤ n
  n1 : n ≤ 100
  l0 : 0 ≤ l
  l1 : l ≤ 7
  so : SortS xs
  ok : ∀ x ∈ xs, goodB x c n = true ∧ 1 ≤ x.id ∧ x.id ≤ l ∧ Small x
theorem MadeS.put {c n l : Int} {xs : List Sub} {x : Sub} (h : MadeS c n l xs) (h1 : goodB x c n = true) (h2 : 1 ≤ x.id) (h3 : x.id ≤ l) (h4 : Small x) : MadeS c n l (putS xs x) :=
  ⟨h.c0, h.c1, h.n0, h.n1, h.l0, h.l1, sort_put h.so x, fun y hy => by
    rcases mem_put.1 hy with rfl | ⟨hy, _⟩
    · exact ⟨h1, h2, h3, h4⟩
    · exact h.ok y hy⟩
end Go.Ts
namespace Go.Proofs.YtodckdkbheapfaaGreat
open Go.RowKit Go.Rst Go.Tp Go.Ts Go.Inv
end Go.Proofs.YtodckdkbheapfaaGreat
