/-
 The contract of the store's lay: the pages of rows in an area, and their head.; The contract of the store's Format.; A store in memory: its device, its own cells, its rows, which lie apart from both. What each deed makes of it, as plain lists.; The contracts of the store's Checkpoint, Used and Epoch.; Plain mathematics of a device: what so many writes, and a flush, make of it, and what a crash may leave. No program.; The contracts of slices.Clone of rows, and of the store's Rows: rows of the call's own, which read as the store's.
-/
import Derived.Test.YtmbkaedhllfoeaaKVB
import Derived.Test.YtmbkaedhllfoeaaKVCF
import Derived.Test.YtmbkaedhllfoeaaKVCG
import Derived.Test.YtmbkaedhllfoeaaKVDC
import Derived.Test.YtmbkaedhllfoeaaKVDD
import Derived.Test.YtmbkaedhllfoeaaKVDH
set_option linter.unusedVariables false
namespace Go.Dv
open Go.RowKit Go.Rst
theorem Did.trans_ {D E : Nat → Prop} {w w1 w2 : World} {v : Value} {s2 : Sim} (hF : Fr D w w1) (hk : ∀ k, E k → D k ∨ w.heap.size ≤ k) (h : Did E w1 v s2 w2) : Did D w v s2 w2 := by
 obtain ⟨G, hG, hF2, hk2⟩ := h
 exact ⟨G, hG, hF.trans hF2 hk, fun k hg => by
  rcases hk2 k hg with h1 | h1
  ·exact hk k h1
  ·exact .inr (Nat.le_trans hF.size h1)⟩
end Go.Dv
namespace Go.Proofs.Ytmbkaedhllfoeaa
open Go.RowKit Go.Rst Go.Dv Go.Crc Go.Str Go.Pg
def layS (s : Sim) (ep ar : Nat) (ps : List (List UInt8)) : Sim :=
 ((writeL s (firstN s.firm.length ar) (chunkL64 ps.flatten) (chunkL64 ps.flatten).length).flush.write ((ep % 2 : Nat) : Int) (Str.headL ep ar ps.length)).flush
theorem flush_firm (s : Sim) : s.flush.firm.length = s.firm.length := by
 unfold Sim.flush
 split
 ·show (kept _ _ _ _).length = _; rw [kept_length]; rfl
 ·rfl
theorem flush_loose (s : Sim) : s.flush.loose.length ≤ s.loose.length := by
 unfold Sim.flush
 split
 ·exact Nat.zero_le _
 ·exact Nat.le_refl _
theorem layS_firm (s : Sim) (ep ar : Nat) (ps : List (List UInt8)) : (layS s ep ar ps).firm.length = s.firm.length := by
 unfold layS; rw [flush_firm, write_firm, flush_firm, writeL_firm]
theorem flat256 : ∀ {ps : List (List UInt8)}, (∀ p ∈ ps, p.length = 256) → ps.flatten.length = ps.length * 256 := fun h => flat_length h
theorem pn_one {w : World} {u : Value} {l : List UInt8} (h : RB w u l) (h1 : ∀ q, u.ownBlock = some q → q < w.heap.size) (base : Nat) (h2 : ∀ q, u.ownBlock = some q → base ≤ q) (hb : base ≤ w.heap.size) : PN (w.alloc (.cells #[u] 22)) base (.slice (some ⟨w.heap.size, 0, none⟩) 1 1) [l] := by
 refine ⟨some ⟨w.heap.size, 0, none⟩, 1, rfl, Nat.le_refl _, by decide, .inr ⟨w.heap.size, 0, rfl, hb, by simp, fun j hj => ?_⟩⟩
 obtain rfl : j = 0 := by simpa using hj
 have hc := cell_of_row (w.alloc (.cells #[u] 22)) w.heap.size 0 #[u] 22 (0, 0) (heap_alloc_new w _)
 exact ⟨u, hc, h.alloc _, fun _ q hq => ⟨h2 q hq, by have := h1 q hq; simp; omega⟩⟩
set_option maxRecDepth 100000 in
set_option maxHeartbeats 2000000 in
theorem lay_st {D : Nat → Prop} {w : World} {v : Value} {s : Sim} (ep ar : Nat) (lv : Value) (rs : List Rw) (ps : List (List UInt8)) (h : Dev D w v s) (hep : ep ≤ 1073741824) (har : ar ≤ 1) (hr : RR w lv rs) (hps : buildL rs = some ps) (hne : ps ≠ []) (h256 : ∀ p ∈ ps, p.length = 256)
  (hn : 64 ≤ s.firm.length) (hfit : ps.length ≤ aN s.firm.length) (hl : s.loose.length ≤ 50000) :
  Calls Try.prog 21 #[dv v, .int .i64 (ep : Int), .int .i64 (ar : Int), lv] w fun e w' => e = .returned (.tuple #[]) ∧ Did D w v (layS s ep ar ps) w' := by
 have HN := h.ok.n
 have H := Lib.hid h
 have HLT := Lib.hid h.lt
 obtain ⟨g, rfl⟩ := dev_ptr h
 have ha := aN_le s.firm.length
 have hp1 : 0 < ps.length := List.length_pos_iff.2 hne
 have hpl : ps.length ≤ 600 := by omega
 have hfl := flat256 h256
 obtain ⟨bl, hbl⟩ : ∃ bl, bl = ps.flatten := ⟨_, rfl⟩
 rw [← hbl] at hfl
 have hlen : (chunkL64 bl).length = ps.length * 4 := by unfold chunkL64; rw [List.length_map, List.length_range]; unfold of64; omega
 have HBd := Lib.hid (build_any lv rs w hr)
 have HBL := Lib.hid hbl
 have HFL := Lib.hid hfl
 have HCL := Lib.hid hlen
 have HPS := Lib.hid hps
 have HNE := Lib.hid hne
 have hff := firstN_le hn har hfit
 have HFF := Lib.hid hff
 clear h hr hps hne hbl hfl hlen ha hff
 go_enter Try.func21, Try.ntmps21
 go_wp2_with fail
 go_at_call 40
 refine HBd.out.mono ?_
 rintro e w1 ⟨p, rfl, hop, hb1⟩
 rw [HPS.out] at hop ⊢
 simp only [Option.isSome, Option.getD_some] at hop ⊢
 obtain ⟨A, c, rfl, hc1, hc2⟩ := hop.shape
 have HOP := Lib.hid hop
 have HB1 := Lib.hid hb1
 clear hop hb1
 go_wp2_with fail
 go_at_call 41
 refine (first_any ar har (H.out.below HB1.out)).mono ?_
 rintro e w1' ⟨rfl, rfl⟩
 obtain ⟨qs, hqs, hPS⟩ := HOP.out.pn.ps HNE.out
 have hcat := cat_flatten hqs
 rw [← HBL.out] at hcat
 have hcc := concat_any _ qs w1 hPS (by rw [hcat, HFL.out]; omega)
 rw [hcat] at hcc
 have HCC := Lib.hid hcc
 clear hcc hqs hPS hcat
 go_wp2_with fail
 go_at_call 43
 refine HCC.out.mono ?_
 rintro e w2 ⟨v2, rfl, ho2, hb2⟩
 obtain ⟨b2, c2, rfl⟩ := ownsRow_succ (k := bl.length - 1) (by rw [Nat.sub_add_cancel (by have := HFL.out; omega)]; exact ho2)
 rw [Nat.sub_add_cancel (by have := HFL.out; omega)] at ho2 ⊢
 have hb2w := hb2
 have HO2 := Lib.hid ho2
 have HB2 := Lib.hid hb2
 clear ho2 hb2 hb2w
 go_wp2_with fail
 go_at_call 32
 refine (chunk64_any _ w2 rfl).mono ?_
 rintro e w3 ⟨rfl, hw3⟩
 have hd3 := dc64_new (RB.own HO2.out)
 rw [← hw3] at hd3
 have hb3 : Below w2.heap.size w2 w3 := by rw [hw3]; exact ((Below.refl _ _).alloc (Nat.le_refl _) _).alloc (by simp) _
 have HD3 := Lib.hid hd3
 have HB3 := Lib.hid hb3
 clear hw3 hd3 hb3
 go_wp2_with fail
 go_at_call 42
 refine (coll64_any b2 0 c2 bl.length w2.heap.size bl w3 rfl HD3.out (by have := HFL.out; omega)).mono ?_
 rintro e w4 ⟨sv, us, rfl, hus, hous, hxs, hb4⟩
 have hb14 := HB2.out.trans (((HB3.out).trans (hb4.mono HB3.out.size)).mono HB2.out.size)
 have hw4 := HB1.out.trans (hb14.mono HB1.out.size)
 have hb2lt : w1.heap.size ≤ b2 ∧ b2 < w2.heap.size := by
  rcases HO2.out.2 with ⟨h0, _⟩ | ⟨g', cap', cur', he', hbb', hg', _⟩
  ·cases h0
  ·injection he' with he' _ _; injection he' with he'; injection he' with he' _; subst he'; exact ⟨hbb', (Array.getElem?_eq_some_iff.1 hg').1⟩
 have hpn := pieces_pn (base := w1.heap.size) hus (own_base hous (Nat.le_trans HB2.out.size HB3.out.size)) hxs ((RB.own HO2.out).below ((HB3.out).trans (hb4.mono HB3.out.size))) hb2lt.1 (Nat.lt_of_lt_of_le hb2lt.2 (Nat.le_trans HB3.out.size hb4.size))
 have HPN := Lib.hid (hpn.base_ HB1.out.size)
 have HB4 := Lib.hid hw4
 obtain ⟨As, cs, rfl, _⟩ := own_shape hous
 clear hus hous hxs hb4 hb14 hw4 hb2lt hpn
 have hwr := wr_any (firstN s.firm.length ar) _ (chunkL64 bl) w.heap.size (H.out.below HB4.out) HLT.out HB4.out.size HPN.out (by rw [HCL.out]; omega) (by have := HFF.out; omega)
 have HWR := Lib.hid hwr
 clear hwr
 go_wp2_with fail
 go_at_call 19
 refine HWR.out.mono ?_
 rintro e w5 ⟨rfl, E5, hE5, hF5, hk5⟩
 obtain ⟨s5, hs5⟩ : ∃ s5, s5 = writeL s (firstN s.firm.length ar) (chunkL64 bl) (chunkL64 bl).length := ⟨_, rfl⟩
 rw [← hs5] at hE5
 have hfirm5 : s5.firm.length = s.firm.length := by rw [hs5, writeL_firm]
 have hloose5 : s5.loose.length ≤ 60000 := by rw [hs5]; have := writeL_loose s (firstN s.firm.length ar) (chunkL64 bl) (chunkL64 bl).length; have h2 := HCL.out; omega
 have HS5 := Lib.hid hs5
 have HF5 := Lib.hid (Fr.trans (Fr.of_below (D := D) HB4.out) hF5 (fun k hk => .inl hk))
 have HK5 := Lib.hid (fun k hk => by
  rcases hk5 k hk with h1 | h1
  ·exact (.inl h1 : D k ∨ w.heap.size ≤ k)
  ·exact .inr (Nat.le_trans HB4.out.size h1))
 have HE5 := Lib.hid hE5
 clear hs5 hE5 hF5 hk5
 go_wp2_with fail
 go_at_call 20
 refine (flush_any HE5.out).mono ?_
 rintro e w6 ⟨rfl, hF6, hE6⟩
 have HF6 := Lib.hid (HF5.out.trans hF6 HK5.out)
 have HE6 := Lib.hid hE6
 have hloose6 : s5.flush.loose.length ≤ 60000 := Nat.le_trans (flush_loose s5) hloose5
 clear hF6 hE6
 go_wp2_with fail
 refine (headsec_any ep ar ps.length hep har (by omega) _).mono ?_
 rintro e w7 ⟨u7, rfl, ho7, hb7⟩
 have hb67 : Below w6.heap.size w6 w7 := ((Below.refl w6.heap.size w6).alloc (Nat.le_refl _) _).trans (hb7.mono (by simp))
 obtain ⟨hd, hhd⟩ : ∃ hd, hd = Str.headL ep ar ps.length := ⟨_, rfl⟩
 rw [← hhd] at ho7
 have hq7 : ∀ q, u7.ownBlock = some q → w6.heap.size ≤ q ∧ q < w7.heap.size := fun q hq => by
  rcases ho7.2 with ⟨rfl, _⟩ | ⟨g7, c7, cur7, rfl, hbb7, hg7, _⟩
  ·simp [Value.ownBlock] at hq
  ·simp [Value.ownBlock] at hq
   subst hq
   rw [World.size_alloc] at hbb7
   exact ⟨by omega, (Array.getElem?_eq_some_iff.1 hg7).1⟩
 have hrb7 := RB.own ho7
 have hpn7 := pn_one hrb7 (fun q hq => (hq7 q hq).2) w6.heap.size (fun q hq => (hq7 q hq).1) hb67.size
 obtain ⟨A7, c7, rfl, _⟩ := own_shape ho7
 have hb8 := hb67.alloc hb67.size (.cells #[.slice A7 hd.length c7] 22)
 have hlt6 := HE6.out.lt
 have hE8 := HE6.out.below hb8
 have hwr8 := wr_any (ep % 2) _ [hd] w6.heap.size hE8 hlt6 hb8.size hpn7 (by simp; omega) (by omega)
 have hm2 : ((ep % 2 : Nat) : Int) = (ep : Int) % 2 := by omega
 rw [hm2] at hwr8
 have HWR8 := Lib.hid hwr8
 have HB8 := Lib.hid hb8
 have HHD := Lib.hid hhd
 clear hb67 hhd hq7 hrb7 hpn7 hb8 hlt6 hE8 hwr8 ho7 hb7 hm2
 go_wp2_with fail
 go_at_call 19
 refine HWR8.out.mono ?_
 rintro e w9 ⟨rfl, E9, hE9, hF9, hk9⟩
 have hk59 : ∀ k, E9 k → D k ∨ w.heap.size ≤ k := fun k hk => by
  rcases hk9 k hk with h1 | h1
  ·exact HK5.out k h1
  ·exact .inr (Nat.le_trans HF6.out.size (Nat.le_trans HB8.out.size h1))
 have HF9 := Lib.hid ((HF6.out.trans (Fr.of_below (D := fun _ => False) HB8.out) (fun _ h => h.elim)).trans hF9 HK5.out)
 have HK9 := Lib.hid hk59
 have HE9 := Lib.hid hE9
 clear hE9 hF9 hk9 hk59
 go_wp2_with fail
 go_at_call 20
 refine (flush_any HE9.out).mono ?_
 rintro e w10 ⟨rfl, hF10, hE10⟩
 have HF10 := Lib.hid (HF9.out.trans hF10 HK9.out)
 have HE10 := Lib.hid hE10
 clear hF10 hE10
 go_wp2
 refine bodyPost_end (results_none rfl _ _ _) rfl ?_
 refine ⟨rfl, E9, ?_, HF10.out, HK9.out⟩
 have he : layS s ep ar ps = (writeL s5.flush (ep % 2) [hd] [hd].length).flush := by
  unfold layS
  rw [← HBL.out, ← HS5.out, ← HHD.out]
  rfl
 rw [he]
 exact HE10.out
end Go.Proofs.Ytmbkaedhllfoeaa
namespace Go.Proofs.Ytmbkaedhllfoeaa
open Go.RowKit Go.Rst Go.Dv Go.Crc Go.Str Go.Pg
def formatS (s : Sim) : Sim := layS (writeL s 0 (List.replicate (2 + jN s.firm.length) []) (2 + jN s.firm.length)).flush 1 0 ((buildL []).getD [])
theorem pn_nils {w : World} {base g n : Nat} (h : w.ownsRow base 22 1 (.slice (some ⟨g, 0, none⟩) n n) n (List.replicate n (.slice none 0 0))) (b : Nat) (hb : b ≤ g) : PN w b (.slice (some ⟨g, 0, none⟩) n n) (List.replicate n []) := by
 rcases h.2 with ⟨h0, _⟩ | ⟨g', cap, cur, he, hbg, hg, hnc, hcm, hcs, ht⟩
 ·cases h0
 ·injection he with he _ hcap
  injection he with he
  injection he with he _
  subst he
  refine ⟨some ⟨g, 0, none⟩, n, by rw [List.length_replicate], by rw [List.length_replicate]; exact Nat.le_refl _, by omega, .inr ⟨g, 0, rfl, hb, (Array.getElem?_eq_some_iff.1 hg).1, fun j hj => ?_⟩⟩
  rw [List.length_replicate] at hj
  have hc := h.cells (g := g) rfl j (.slice none 0 0) (by simp [hj])
  rw [Addr.add_lit] at hc
  exact ⟨_, hc, by rw [List.getElem_replicate]; exact RB.nil_ w, fun hne => absurd (List.getElem_replicate ..) hne⟩
set_option maxRecDepth 100000 in
set_option maxHeartbeats 1600000 in
theorem format_st {D : Nat → Prop} {w : World} {v : Value} {s : Sim} (h : Dev D w v s) (hn : 64 ≤ s.firm.length) (hl : s.loose.length ≤ 40000) :
  Calls Try.prog 7 #[v] w fun e w' => e = .returned (.int .u16 0) ∧ Did D w v (formatS s) w' := by
 obtain ⟨iU, hi, hz0, hz1, hz2⟩ := info_parts info22
 have HI := Lib.hid hi
 have HZ0 := Lib.hid hz0
 have HZ1 := Lib.hid hz1
 have HZ2 := Lib.hid hz2
 clear hi hz0 hz1 hz2
 have HN := h.ok.n
 have H := Lib.hid h
 have HLT := Lib.hid h.lt
 obtain ⟨g, rfl⟩ := dev_ptr h
 obtain ⟨n, hne⟩ : ∃ n, n = s.firm.length := ⟨_, rfl⟩
 have hlen := fun X (hX : Dev D X (.pointer (some ⟨g, 0, none⟩)) s) => len_any hX
 rw [← hne] at hlen hn HN
 have HL := Lib.hid hlen
 have hlay := fun X => layout_any (n : Int) (by omega) (by omega) X
 rw [layJ_nat, layA_nat] at hlay
 have HY := Lib.hid hlay
 have hj1 := jN_le n
 have hj2 := aN_pos hn
 obtain ⟨J, hJ⟩ : ∃ J, J = jN n := ⟨_, rfl⟩
 rw [← hJ] at HY hj1 hj2
 have HJ := Lib.hid hJ
 have HNE := Lib.hid hne
 have hJ4 : J ≤ 1024 := by omega
 have hnn : ¬ (n : Int) < 64 := by omega
 clear h hlen hlay hJ hne
 go_enter Try.func7, Try.ntmps7
 go_wp2_with (first | (go_at_call 17; refine (HL.out _ H.out).mono ?_; rintro e w1 ⟨rfl, rfl⟩) | (go_at_call 18; refine (HY.out _).mono ?_; rintro e w1 ⟨rfl, rfl⟩) | (refine wpList_make_full _ rfl (.tmp 17) (.tmp 17) 35 rfl 0 22 iU (.slice none 0 0) 1 Try.underlying35 HI.out HZ0.out HZ1.out .i64 .i64 (2 + (J : Int)) (2 + (J : Int)) (2 + J) rfl rfl (by omega) (by omega) (by rw [HZ2.out]; omega) (by unfold maxLen; omega) (Nat.zero_le _) ?_))
 intro w2 hown2 hgrow2
 have hmk : (madeCells #[Value.slice none 0 0] (2 + J)).toList = List.replicate (2 + J) (.slice none 0 0) := toList_madeCells_one _ _
 rw [hmk] at hown2
 have hb2 : Below w.heap.size w w2 := (Below.refl _ _).grown hgrow2 (Nat.le_refl _) (fun z hz => by cases hz)
 have hpn := pn_nils hown2 w.heap.size (Nat.le_refl _)
 have hsl : s.loose.length + (List.replicate (2 + J) ([] : List UInt8)).length < 100000 := by rw [List.length_replicate]; omega
 have hwr := wr_any 0 _ _ w.heap.size (H.out.below hb2) HLT.out hb2.size hpn hsl (by omega)
 rw [List.length_replicate] at hwr
 have HWR := Lib.hid hwr
 have HB2 := Lib.hid hb2
 clear hwr hpn hown2 hgrow2 hmk hb2 hsl
 go_wp2_with fail
 go_at_call 19
 refine HWR.out.mono ?_
 rintro e w5 ⟨rfl, E5, hE5, hF5, hk5⟩
 obtain ⟨s5, hs5⟩ : ∃ s5, s5 = writeL s 0 (List.replicate (2 + J) []) (2 + J) := ⟨_, rfl⟩
 rw [← hs5] at hE5
 have hfirm5 : s5.firm.length = n := by rw [hs5, writeL_firm]; exact HNE.out.symm
 have hloose5 : s5.loose.length ≤ 50000 := by rw [hs5]; have := writeL_loose s 0 (List.replicate (2 + J) []) (2 + J); omega
 have HS5 := Lib.hid hs5
 have HF5 := Lib.hid (Fr.trans (Fr.of_below (D := D) HB2.out) hF5 (fun k hk => .inl hk))
 have HK5 := Lib.hid (fun k hk => by
  rcases hk5 k hk with h1 | h1
  ·exact (.inl h1 : D k ∨ w.heap.size ≤ k)
  ·exact .inr (Nat.le_trans HB2.out.size h1))
 have HE5 := Lib.hid hE5
 have HFI5 := Lib.hid hfirm5
 clear hs5 hE5 hF5 hk5 hfirm5
 go_wp2_with fail
 go_at_call 20
 refine (flush_any HE5.out).mono ?_
 rintro e w6 ⟨rfl, hF6, hE6⟩
 have HF6 := Lib.hid (HF5.out.trans hF6 HK5.out)
 have hloose6 : s5.flush.loose.length ≤ 50000 := Nat.le_trans (flush_loose s5) hloose5
 obtain ⟨pg, hpg⟩ := build_nil
 have hf6 : s5.flush.firm.length = n := by rw [flush_firm]; exact HFI5.out
 have hlay := lay_st 1 0 (.slice none 0 0) [] [pg] hE6 (by omega) (by omega) (rr_nil _) hpg (by simp) (built_256 hpg) (by rw [hf6]; exact hn) (by rw [hf6]; simp; omega) hloose6
 have HLAY := Lib.hid hlay
 have HPG := Lib.hid hpg
 clear hF6 hE6 hlay hpg hf6
 go_wp2_with fail
 go_at_call 21
 refine HLAY.out.mono ?_
 rintro e w7 ⟨rfl, hdid⟩
 have hd2 := Did.trans_ HF6.out HK5.out hdid
 have he : formatS s = layS s5.flush 1 0 [pg] := by
  unfold formatS
  rw [← HNE.out, ← HJ.out, ← HS5.out, HPG.out]
  rfl
 rw [← he] at hd2
 have HD2 := Lib.hid hd2
 clear hdid hd2 he
 go_wp2
 go_ret
 exact ⟨rfl, HD2.out⟩
end Go.Proofs.Ytmbkaedhllfoeaa
namespace Go.Proofs.Ytmbkaedhllfoeaa
open Go.RowKit Go.Rst Go.Dv Go.Crc Go.Str Go.Pg
structure Ss where
 d : Sim
 rows : List Rw
 ep : Nat
 ar : Nat
 us : Nat
 fr : Nat
abbrev Ss.n (x : Ss) : Nat := x.d.firm.length
def sc (dg : Nat) (rv : Value) (x : Ss) : Array Value := #[dv (.pointer (some ⟨dg, 0, none⟩)), rv, .int .i64 (x.ep : Int), .int .i64 (x.ar : Int), .int .i64 (x.us : Int), .int .i64 (x.fr : Int)]
structure GoodX (x : Ss) : Prop where
 n : 64 ≤ x.n
 ok : OK x.d
 fit : ∃ ps, buildL x.rows = some ps ∧ ps.length ≤ aN x.n
 ep : x.ep ≤ 1073741824
 ar : x.ar ≤ 1
 us : x.us ≤ jN x.n
 fr : x.fr ≤ x.us
 lo : x.d.loose.length ≤ 8000
 calm : x.d.goes = true → x.d.loose = []
def RO (R : Nat → Prop) (w : World) (rv : Value) (rs : List Rw) : Prop := ∀ w' : World, w.heap.size ≤ w'.heap.size → (∀ k, R k → w'.heap[k]? = w.heap[k]?) → RR w' rv rs
structure StoA (D R M : Nat → Prop) (g dg : Nat) (rv : Value) (w : World) (x : Ss) : Prop where
 dev : Dev D w (.pointer (some ⟨dg, 0, none⟩)) x.d
 hg : ¬ D g
 hR : ∀ k, R k → ¬ D k ∧ k ≠ g ∧ k < w.heap.size
 hM : ∀ k, M k ↔ (D k ∨ k = g ∨ R k)
 blk : Dv.Blk w g 75 (sc dg rv x)
 rows : RO R w rv x.rows
def Sto (dg : Nat) (M : Nat → Prop) (w : World) (sv : Value) (x : Ss) : Prop :=
 ∃ (D R : Nat → Prop) (g : Nat) (rv : Value), sv = .pointer (some ⟨g, 0, none⟩) ∧ StoA D R M g dg rv w x
theorem RO.keep {R : Nat → Prop} {w w' : World} {rv : Value} {rs : List Rw} (h : RO R w rv rs) (hs : w.heap.size ≤ w'.heap.size) (hk : ∀ k, R k → w'.heap[k]? = w.heap[k]?) : RO R w' rv rs :=
 fun w2 h2 hk2 => h w2 (Nat.le_trans hs h2) (fun k hr => (hk2 k hr).trans (hk k hr))
theorem RO.rr {R : Nat → Prop} {w : World} {rv : Value} {rs : List Rw} (h : RO R w rv rs) : RR w rv rs := h w (Nat.le_refl _) (fun _ _ => rfl)
def SDid (dg : Nat) (M : Nat → Prop) (w : World) (sv : Value) (x : Ss) (w' : World) : Prop := ∃ M' : Nat → Prop, Sto dg M' w' sv x ∧ Fr M w w' ∧ ∀ k, M' k → M k ∨ w.heap.size ≤ k
section
variable {dg : Nat} {M : Nat → Prop} {w w' : World} {sv : Value} {x : Ss}
theorem StoA.lt {D R : Nat → Prop} {g : Nat} {rv : Value} (h : StoA D R M g dg rv w x) : ∀ k, M k → k < w.heap.size := by
 intro k hk
 rcases (h.hM k).1 hk with h1 | rfl | h1
 ·exact h.dev.lt k h1
 ·exact h.blk.lt
 ·exact (h.hR k h1).2.2
theorem Sto.lt (h : Sto dg M w sv x) : ∀ k, M k → k < w.heap.size := by
 obtain ⟨D, R, g, rv, _, h⟩ := h
 exact h.lt
theorem StoA.fr {D R : Nat → Prop} {g : Nat} {rv : Value} {E : Nat → Prop} (h : StoA D R M g dg rv w x) (hf : Fr E w w') (hE : ∀ k, E k → ¬ M k) : StoA D R M g dg rv w' x := by
 have hk : ∀ k, k < w.heap.size → M k → w'.heap[k]? = w.heap[k]? := fun k hk hm => hf.block k hk (fun he => hE k he hm)
 exact ⟨h.dev.fr (E := E) hf (fun k hk hD => hE k hk ((h.hM k).2 (.inl hD))), h.hg, fun k hr => ⟨(h.hR k hr).1, (h.hR k hr).2.1, Nat.lt_of_lt_of_le (h.hR k hr).2.2 hf.size⟩, h.hM, h.blk.same (hk g h.blk.lt ((h.hM g).2 (.inr (.inl rfl)))), h.rows.keep hf.size (fun k hr => hk k (h.hR k hr).2.2 ((h.hM k).2 (.inr (.inr hr))))⟩
theorem Sto.fr {E : Nat → Prop} (h : Sto dg M w sv x) (hf : Fr E w w') (hE : ∀ k, E k → ¬ M k) : Sto dg M w' sv x := by
 obtain ⟨D, R, g, rv, h0, h⟩ := h
 exact ⟨D, R, g, rv, h0, h.fr hf hE⟩
theorem StoA.below {D R : Nat → Prop} {g : Nat} {rv : Value} (h : StoA D R M g dg rv w x) (hb : Below w.heap.size w w') : StoA D R M g dg rv w' x := h.fr (E := fun _ => False) (Fr.of_below hb) (fun _ h => h.elim)
theorem Sto.below (h : Sto dg M w sv x) (hb : Below w.heap.size w w') : Sto dg M w' sv x := h.fr (E := fun _ => False) (Fr.of_below hb) (fun _ h => h.elim)
theorem SDid.same (h : Sto dg M w' sv x) (hf : Fr M w w') : SDid dg M w sv x w' := ⟨M, h, hf, fun _ h => .inl h⟩
end
theorem SDid.trans_ {dg : Nat} {M E : Nat → Prop} {w w1 w2 : World} {sv : Value} {x : Ss} (hF : Fr M w w1) (hk : ∀ k, E k → M k ∨ w.heap.size ≤ k) (h : SDid dg E w1 sv x w2) : SDid dg M w sv x w2 := by
 obtain ⟨G, hG, hF2, hk2⟩ := h
 exact ⟨G, hG, hF.trans hF2 hk, fun k hg => by
  rcases hk2 k hg with h1 | h1
  ·exact hk k h1
  ·exact .inr (Nat.le_trans hF.size h1)⟩
def ckS (x : Ss) : Ss := { d := layS x.d (x.ep + 1) (1 - x.ar) ((buildL x.rows).getD []), rows := x.rows, ep := x.ep + 1, ar := 1 - x.ar, us := 0, fr := 0 }
theorem or_ro {w : World} {base top : Nat} {rv : Value} {rs : List Rw} (h : OR 5 47 w base rv rs) (ht : w.heap.size ≤ top) : RO (fun k => base ≤ k ∧ k < top) w rv rs := fun w' hs hk => by
 obtain ⟨us, hu, ho, hf⟩ := h
 have hb : ∀ k, base ≤ k → k < w.heap.size → w'.heap[k]? = w.heap[k]? := fun k h1 h2 => hk k ⟨h1, by omega⟩
 have ho' : w'.ownsRow base 47 2 rv us.length (rowCells us) := own_same ho (fun k hk => by
  rcases ho.2 with ⟨rfl, _⟩ | ⟨g, cap, cur, rfl, hbg, hg, _⟩
  ·simp [Value.ownBlock] at hk
  ·obtain rfl : g = k := by simpa [Value.ownBlock] using hk
   exact hb g hbg (Array.getElem?_eq_some_iff.1 hg).1)
 exact (show OR 5 47 w' base rv rs from ⟨us, hu, ho', fun x hx => by
  rcases hf x hx with h1 | ⟨g, c, cur, fr, h1, h2, h3, h4⟩
  ·exact .inl h1
  ·exact .inr ⟨g, c, cur, fr, h1, h2, (hb g h2 (Array.getElem?_eq_some_iff.1 h3).1).trans h3, h4⟩⟩).rr
end Go.Proofs.Ytmbkaedhllfoeaa
namespace Go.Proofs.Ytmbkaedhllfoeaa
open Go.RowKit Go.Rst Go.Dv Go.Crc Go.Str Go.Pg
theorem rr_of {D R M : Nat → Prop} {g dg : Nat} {rv : Value} {w w' : World} {x : Ss} (h : StoA D R M g dg rv w x) {E : Nat → Prop} (hf : Fr E w w') (hE : ∀ k, E k → ¬ R k) : RR w' rv x.rows :=
 h.rows w' hf.size (fun k hr => hf.block k (h.hR k hr).2.2 (fun he => hE k he hr))
set_option maxRecDepth 100000 in
set_option maxHeartbeats 400000 in
theorem epoch_any {dg : Nat} {M : Nat → Prop} {w : World} {sv : Value} {x : Ss} (h : Sto dg M w sv x) :
  Calls Try.prog 11 #[sv] w fun e w' => e = .returned (.int .i64 (x.ep : Int)) ∧ w = w' := by
 obtain ⟨D, R, g, rv, rfl, h⟩ := h
 have c2 := h.blk.cell 2
 unfold sc at c2
 simp at c2
 clear h
 go_enter Try.func11, Try.ntmps11
 go_wp2
 go_ret
 exact ⟨rfl, rfl⟩
set_option maxRecDepth 100000 in
set_option maxHeartbeats 400000 in
theorem ck_over {dg : Nat} {M : Nat → Prop} {w : World} {sv : Value} {x : Ss} (h : Sto dg M w sv x) (he : x.ep = 1073741824) :
  Calls Try.prog 15 #[sv] w fun e w' => e = .returned (.int .u16 32) ∧ w = w' := by
 obtain ⟨D, R, g, rv, rfl, h⟩ := h
 have c2 := h.blk.cell 2
 unfold sc at c2
 rw [he] at c2
 simp at c2
 clear h
 go_enter Try.func15, Try.ntmps15
 go_wp2
 go_ret
 exact ⟨rfl, rfl⟩
set_option maxRecDepth 100000 in
set_option maxHeartbeats 2000000 in
theorem ck_any {dg : Nat} {M : Nat → Prop} {w : World} {sv : Value} {x : Ss} (h : Sto dg M w sv x) (hG : GoodX x) (he : x.ep < 1073741824) :
  Calls Try.prog 15 #[sv] w fun e w' => e = .returned (.int .u16 0) ∧ SDid dg M w sv (ckS x) w' := by
 obtain ⟨D, R, g, rv, rfl, h⟩ := h
 obtain ⟨ps, hps, hpl⟩ := hG.fit
 have H := Lib.hid h
 have c0 := h.blk.cell 0
 have c1 := h.blk.cell 1
 have c2 := h.blk.cell 2
 have c3 := h.blk.cell 3
 have c4 := h.blk.cell 4
 have c5 := h.blk.cell 5
 have f2 := h.blk.frozen 2
 have f3 := h.blk.frozen 3
 unfold sc at c0 c1 c2 c3 c4 c5
 simp at c0 c1 c2 c3 c4 c5
 obtain ⟨Ar, cr, hrv, hrc1, hrc2⟩ := rr_shape h.rows.rr
 have hxe : x.ep ≤ 1073741823 := by omega
 have hxa := hG.ar
 obtain ⟨E1, hE1⟩ : ∃ E1, E1 = x.ep + 1 := ⟨_, rfl⟩
 obtain ⟨A1, hA1⟩ : ∃ A1, A1 = 1 - x.ar := ⟨_, rfl⟩
 have hwe : IntKind.i64.wrap ((x.ep : Int) + 1) = (E1 : Int) := by rw [IntKind.wrap_i64]; omega
 have hwa : IntKind.i64.wrap (1 - (x.ar : Int)) = (A1 : Int) := by rw [IntKind.wrap_i64]; omega
 have hxne : ¬ (x.ep : Int) = 1073741824 := by omega
 have hxne2 : ((x.ep : Int) == 1073741824) = false := by rw [beq_eq_false_iff_ne]; omega
 let W2 := (w.setCell ⟨g, 2, none⟩ (.int .i64 (E1 : Int))).setCell ⟨g, 3, none⟩ (.int .i64 (A1 : Int))
 have hfr : Fr (fun j => j = g) w W2 := Fr.setCell (p := ⟨g, 3, none⟩) (Fr.setCell (p := ⟨g, 2, none⟩) (Fr.refl (fun j => j = g) w) (.inl rfl) _) (.inl rfl) _
 have hdev2 : Dev D W2 (.pointer (some ⟨dg, 0, none⟩)) x.d := h.dev.fr hfr (by rintro k rfl; exact h.hg)
 have hblk2 : Dv.Blk W2 g 75 #[dv (.pointer (some ⟨dg, 0, none⟩)), rv, .int .i64 (E1 : Int), .int .i64 (A1 : Int), .int .i64 (x.us : Int), .int .i64 (x.fr : Int)] := (h.blk.set_ 2 _).set_ 3 _
 have hrr2 : RR W2.drew rv x.rows := rr_of h hfr.drew (by rintro k rfl hr; exact (h.hR k hr).2.1 rfl)
 have hlay := lay_st (w := W2.drew) E1 A1 rv x.rows ps (hdev2.below (Below.refl _ _).drew) (by omega) (by omega) hrr2 hps (built_ne hps) (built_256 hps) hG.n hpl (by have := hG.lo; omega)
 have HLAY := Lib.hid hlay
 have HB2 := Lib.hid hblk2
 have HF2 := Lib.hid hfr
 have HD2 := Lib.hid hdev2
 have HE1 := Lib.hid hE1
 have HA1 := Lib.hid hA1
 have HPS := Lib.hid hps
 have HW2 := Lib.hid (show W2 = (w.setCell ⟨g, 2, none⟩ (.int .i64 (E1 : Int))).setCell ⟨g, 3, none⟩ (.int .i64 (A1 : Int)) from rfl)
 clear_value W2
 subst hrv
 clear h hps hpl hfr hdev2 hblk2 hrr2 hlay hE1 hA1 hG
 go_enter Try.func15, Try.ntmps15
 go_wp2
 rw [← HW2.out]
 refine wp_region_held_drew (S := fun X => Dv.Blk X g 75 #[dv (.pointer (some ⟨dg, 0, none⟩)), .slice Ar x.rows.length cr, .int .i64 (E1 : Int), .int .i64 (A1 : Int), .int .i64 (x.us : Int), .int .i64 (x.fr : Int)]) (by kernel_rfl) HB2.out (fun hHeld => ?_)
 refine wpAnyH_take (i := 0) (oi := { dst := some 25, op := Op.move (Operand.tmp 0), type := 29, pos := "store.go:116", after := #[], guard := none }) (v := ?_) rfl (by kernel_rfl) (by kernel_rfl) (by kernel_rfl) (fun _ _ _ h => h) (Or.inl ⟨by rfl, ?_⟩) (by assumption) ?_
 rotate_left
 ·intro X hSw; go_simp; try (with_reducible rfl)
 try simp only [Act.put, List.setIfInBounds_toArray, List.set_cons_zero, List.set_cons_succ]
 refine wpAnyH_take (i := 1) (oi := { dst := some 26, op := Op.nilCheck (Operand.tmp 25), type := 0, pos := "store.go:116", after := #[{ on := 0, ground := Ground.data }], guard := none }) (v := ?_) rfl (by kernel_rfl) (by kernel_rfl) (by kernel_rfl) (fun _ _ _ h => h) (Or.inl ⟨by rfl, ?_⟩) (by assumption) ?_
 rotate_left
 ·intro X hSw; go_simp; try (with_reducible rfl)
 try simp only [Act.put, List.setIfInBounds_toArray, List.set_cons_zero, List.set_cons_succ]
 refine wpAnyH_take (i := 2) (oi := { dst := some 27, op := Op.fieldAddr 75 (Operand.tmp 26) 0, type := 0, pos := "store.go:116", after := #[{ on := 1, ground := Ground.data }], guard := none }) (v := ?_) rfl (by kernel_rfl) (by kernel_rfl) (by kernel_rfl) (fun _ _ _ h => h) (Or.inl ⟨by rfl, ?_⟩) (by assumption) ?_
 rotate_left
 ·intro X hSw; go_simp; try (with_reducible rfl)
 try simp only [Act.put, List.setIfInBounds_toArray, List.set_cons_zero, List.set_cons_succ]
 refine wpAnyH_take (i := 3) (oi := { dst := some 28, op := Op.load 73 (Operand.tmp 27), type := 73, pos := "store.go:116", after := #[{ on := 2, ground := Ground.data }], guard := none }) (v := ?_) rfl (by kernel_rfl) (by kernel_rfl) (by kernel_rfl) (fun _ _ _ h => h) (Or.inl ⟨by rfl, ?_⟩) (by assumption) ?_
 rotate_left
 ·intro X hSw; have z0 := hSw.cell 0; have z1 := hSw.cell 1; have z2 := hSw.cell 2; have z3 := hSw.cell 3; simp at z0 z1 z2 z3; go_simp; try (with_reducible rfl)
 try simp only [Act.put, List.setIfInBounds_toArray, List.set_cons_zero, List.set_cons_succ]
 refine wpAnyH_take (i := 4) (oi := { dst := some 29, op := Op.move (Operand.tmp 0), type := 29, pos := "store.go:116", after := #[], guard := none }) (v := ?_) rfl (by kernel_rfl) (by kernel_rfl) (by kernel_rfl) (fun _ _ _ h => h) (Or.inl ⟨by rfl, ?_⟩) (by assumption) ?_
 rotate_left
 ·intro X hSw; go_simp; try (with_reducible rfl)
 try simp only [Act.put, List.setIfInBounds_toArray, List.set_cons_zero, List.set_cons_succ]
 refine wpAnyH_take (i := 5) (oi := { dst := some 30, op := Op.nilCheck (Operand.tmp 29), type := 0, pos := "store.go:116", after := #[{ on := 4, ground := Ground.data }], guard := none }) (v := ?_) rfl (by kernel_rfl) (by kernel_rfl) (by kernel_rfl) (fun _ _ _ h => h) (Or.inl ⟨by rfl, ?_⟩) (by assumption) ?_
 rotate_left
 ·intro X hSw; go_simp; try (with_reducible rfl)
 try simp only [Act.put, List.setIfInBounds_toArray, List.set_cons_zero, List.set_cons_succ]
 refine wpAnyH_take (i := 6) (oi := { dst := some 31, op := Op.fieldAddr 75 (Operand.tmp 30) 2, type := 0, pos := "store.go:116", after := #[{ on := 5, ground := Ground.data }], guard := none }) (v := ?_) rfl (by kernel_rfl) (by kernel_rfl) (by kernel_rfl) (fun _ _ _ h => h) (Or.inl ⟨by rfl, ?_⟩) (by assumption) ?_
 rotate_left
 ·intro X hSw; go_simp; try (with_reducible rfl)
 try simp only [Act.put, List.setIfInBounds_toArray, List.set_cons_zero, List.set_cons_succ]
 refine wpAnyH_take (i := 7) (oi := { dst := some 32, op := Op.load 3 (Operand.tmp 31), type := 3, pos := "store.go:116", after := #[{ on := 6, ground := Ground.data }], guard := none }) (v := ?_) rfl (by kernel_rfl) (by kernel_rfl) (by kernel_rfl) (fun _ _ _ h => h) (Or.inl ⟨by rfl, ?_⟩) (by assumption) ?_
 rotate_left
 ·intro X hSw; have z0 := hSw.cell 0; have z1 := hSw.cell 1; have z2 := hSw.cell 2; have z3 := hSw.cell 3; simp at z0 z1 z2 z3; go_simp; try (with_reducible rfl)
 try simp only [Act.put, List.setIfInBounds_toArray, List.set_cons_zero, List.set_cons_succ]
 refine wpAnyH_take (i := 8) (oi := { dst := some 33, op := Op.move (Operand.tmp 0), type := 29, pos := "store.go:116", after := #[], guard := none }) (v := ?_) rfl (by kernel_rfl) (by kernel_rfl) (by kernel_rfl) (fun _ _ _ h => h) (Or.inl ⟨by rfl, ?_⟩) (by assumption) ?_
 rotate_left
 ·intro X hSw; go_simp; try (with_reducible rfl)
 try simp only [Act.put, List.setIfInBounds_toArray, List.set_cons_zero, List.set_cons_succ]
 refine wpAnyH_take (i := 9) (oi := { dst := some 34, op := Op.nilCheck (Operand.tmp 33), type := 0, pos := "store.go:116", after := #[{ on := 8, ground := Ground.data }], guard := none }) (v := ?_) rfl (by kernel_rfl) (by kernel_rfl) (by kernel_rfl) (fun _ _ _ h => h) (Or.inl ⟨by rfl, ?_⟩) (by assumption) ?_
 rotate_left
 ·intro X hSw; go_simp; try (with_reducible rfl)
 try simp only [Act.put, List.setIfInBounds_toArray, List.set_cons_zero, List.set_cons_succ]
 refine wpAnyH_take (i := 10) (oi := { dst := some 35, op := Op.fieldAddr 75 (Operand.tmp 34) 3, type := 0, pos := "store.go:116", after := #[{ on := 9, ground := Ground.data }], guard := none }) (v := ?_) rfl (by kernel_rfl) (by kernel_rfl) (by kernel_rfl) (fun _ _ _ h => h) (Or.inl ⟨by rfl, ?_⟩) (by assumption) ?_
 rotate_left
 ·intro X hSw; go_simp; try (with_reducible rfl)
 try simp only [Act.put, List.setIfInBounds_toArray, List.set_cons_zero, List.set_cons_succ]
 refine wpAnyH_take (i := 11) (oi := { dst := some 36, op := Op.load 3 (Operand.tmp 35), type := 3, pos := "store.go:116", after := #[{ on := 10, ground := Ground.data }], guard := none }) (v := ?_) rfl (by kernel_rfl) (by kernel_rfl) (by kernel_rfl) (fun _ _ _ h => h) (Or.inl ⟨by rfl, ?_⟩) (by assumption) ?_
 rotate_left
 ·intro X hSw; have z0 := hSw.cell 0; have z1 := hSw.cell 1; have z2 := hSw.cell 2; have z3 := hSw.cell 3; simp at z0 z1 z2 z3; go_simp; try (with_reducible rfl)
 try simp only [Act.put, List.setIfInBounds_toArray, List.set_cons_zero, List.set_cons_succ]
 refine wpAnyH_take (i := 12) (oi := { dst := some 37, op := Op.move (Operand.tmp 0), type := 29, pos := "store.go:116", after := #[], guard := none }) (v := ?_) rfl (by kernel_rfl) (by kernel_rfl) (by kernel_rfl) (fun _ _ _ h => h) (Or.inl ⟨by rfl, ?_⟩) (by assumption) ?_
 rotate_left
 ·intro X hSw; go_simp; try (with_reducible rfl)
 try simp only [Act.put, List.setIfInBounds_toArray, List.set_cons_zero, List.set_cons_succ]
 refine wpAnyH_take (i := 13) (oi := { dst := some 38, op := Op.nilCheck (Operand.tmp 37), type := 0, pos := "store.go:116", after := #[{ on := 12, ground := Ground.data }], guard := none }) (v := ?_) rfl (by kernel_rfl) (by kernel_rfl) (by kernel_rfl) (fun _ _ _ h => h) (Or.inl ⟨by rfl, ?_⟩) (by assumption) ?_
 rotate_left
 ·intro X hSw; go_simp; try (with_reducible rfl)
 try simp only [Act.put, List.setIfInBounds_toArray, List.set_cons_zero, List.set_cons_succ]
 refine wpAnyH_take (i := 14) (oi := { dst := some 39, op := Op.fieldAddr 75 (Operand.tmp 38) 1, type := 0, pos := "store.go:116", after := #[{ on := 13, ground := Ground.data }], guard := none }) (v := ?_) rfl (by kernel_rfl) (by kernel_rfl) (by kernel_rfl) (fun _ _ _ h => h) (Or.inl ⟨by rfl, ?_⟩) (by assumption) ?_
 rotate_left
 ·intro X hSw; go_simp; try (with_reducible rfl)
 try simp only [Act.put, List.setIfInBounds_toArray, List.set_cons_zero, List.set_cons_succ]
 refine wpAnyH_take (i := 15) (oi := { dst := some 40, op := Op.load 40 (Operand.tmp 39), type := 40, pos := "store.go:116", after := #[{ on := 14, ground := Ground.data }], guard := none }) (v := ?_) rfl (by kernel_rfl) (by kernel_rfl) (by kernel_rfl) (fun _ _ _ h => h) (Or.inl ⟨by rfl, ?_⟩) (by assumption) ?_
 rotate_left
 ·intro X hSw; have z0 := hSw.cell 0; have z1 := hSw.cell 1; have z2 := hSw.cell 2; have z3 := hSw.cell 3; simp at z0 z1 z2 z3; go_simp; try (with_reducible rfl)
 try simp only [Act.put, List.setIfInBounds_toArray, List.set_cons_zero, List.set_cons_succ]
 refine wpAnyH_ready (rs := [16]) (by kernel_rfl) (by simp) ?_
 refine AllReadyH.cons (o := { dst := some 41, op := Op.call { callee := Callee.value (Operand.func 21), args := #[Operand.tmp 28, Operand.tmp 32, Operand.tmp 36, Operand.tmp 40], argTypes := #[73, 3, 3, 40] }, type := 0, pos := "store.go:116", after := #[{ on := 3, ground := Ground.data }, { on := 7, ground := Ground.data }, { on := 11, ground := Ground.data }, { on := 15, ground := Ground.data }], guard := none }) rfl (fun K hK => ?_) AllReadyH.nil
 go_simp
 refine HLAY.out.mono ?_
 rintro e w3 ⟨rfl, E3, hE3, hF3, hk3⟩
 have HB3 := Lib.hid (show Dv.Blk w3 g 75 #[dv (.pointer (some ⟨dg, 0, none⟩)), .slice Ar x.rows.length cr, .int .i64 (E1 : Int), .int .i64 (A1 : Int), .int .i64 (x.us : Int), .int .i64 (x.fr : Int)] from HB2.out.same (hF3.block g HB2.out.lt H.out.hg))
 have HE3 := Lib.hid hE3
 have HF3 := Lib.hid (show Fr D W2 w3 from (Fr.refl D W2).drew.trans hF3 (fun _ h => .inl h))
 have HK3 := Lib.hid (show ∀ k, E3 k → D k ∨ W2.heap.size ≤ k from hk3)
 clear hE3 hF3 hk3
 try (go_wp2_with fail)
 have hHeld' := HB3.out
 refine hK.out _ _ ?_ (fun _ => ?_)
 ·exact hHeld'
 clear hK K hHeld
 have hHeld := hHeld'
 clear hHeld'
 try simp only [Act.put, List.setIfInBounds_toArray, List.set_cons_zero, List.set_cons_succ]
 refine wpAnyH_done (by kernel_rfl) ?_ _
 clear hHeld c0 c1 c2 c3 c4 c5 f2 f3
 have p4 := HB3.out.cell 4
 have p5 := HB3.out.cell 5
 have f4 := HB3.out.frozen 4
 have f5 := HB3.out.frozen 5
 simp at p4 p5
 go_wp2
 go_ret
 refine ⟨rfl, fun k => E3 k ∨ k = g ∨ R k, ⟨E3, R, g, .slice Ar x.rows.length cr, rfl, ?_⟩, ?_, ?_⟩
 ·have hgs : g < W2.heap.size := HB2.out.lt
  have hsz : W2.heap.size = w.heap.size := by rw [HW2.out]; simp [World.setCell]
  have hng : ¬ E3 g := fun hh => by rcases HK3.out g hh with h1 | h1; exact H.out.hg h1; omega
  have hf4 : Fr (fun j => j = g) w3 ((w3.setCell ⟨g, 4, none⟩ (.int .i64 0)).setCell ⟨g, 5, none⟩ (.int .i64 0)) := Fr.setCell (p := ⟨g, 5, none⟩) (Fr.setCell (p := ⟨g, 4, none⟩) (Fr.refl (fun j => j = g) w3) (.inl rfl) _) (.inl rfl) _
  have hck : ckS x = ⟨layS x.d E1 A1 ps, x.rows, E1, A1, 0, 0⟩ := by unfold ckS; rw [HPS.out, HE1.out, HA1.out]; rfl
  rw [hck]
  refine ⟨HE3.out.fr hf4 (by rintro k rfl; exact hng), hng, fun k hr => ⟨fun hh => ?_, (H.out.hR k hr).2.1, ?_⟩, fun k => Iff.rfl, (HB3.out.set_ 4 _).set_ 5 _, H.out.rows.keep ?_ (fun k hr => ?_)⟩
  ·rcases HK3.out k hh with h1 | h1
   ·exact (H.out.hR k hr).1 h1
   ·have := (H.out.hR k hr).2.2; omega
  ·have h1 := (H.out.hR k hr).2.2
   have h2 := HF3.out.size
   have h3 := hf4.size
   omega
  ·have h2 := HF3.out.size
   have h3 := hf4.size
   omega
  ·have h1 := (H.out.hR k hr).2.2
   have e1 := HF2.out.block k h1 (by intro hkg; exact (H.out.hR _ hr).2.1 hkg)
   have e2 := HF3.out.block k (by omega) (H.out.hR k hr).1
   have e3 := hf4.block k (by have := HF3.out.size; omega) (by intro hkg; exact (H.out.hR _ hr).2.1 hkg)
   exact e3.trans (e2.trans e1)
 ·have hm1 : ∀ k, k = g → M k := fun k hk => (H.out.hM k).2 (.inr (.inl hk))
  have hm2 : ∀ k, D k → M k := fun k hk => (H.out.hM k).2 (.inl hk)
  exact Fr.setCell (p := ⟨g, 5, none⟩) (Fr.setCell (p := ⟨g, 4, none⟩) ((HF2.out.mono hm1).trans HF3.out (fun k hk => .inl (hm2 k hk))) (.inl (hm1 g rfl)) _) (.inl (hm1 g rfl)) _
 ·have hsz : W2.heap.size = w.heap.size := by rw [HW2.out]; simp [World.setCell]
  rintro k (h1 | h1 | h1)
  ·rcases HK3.out k h1 with h2 | h2
   ·exact .inl ((H.out.hM k).2 (.inl h2))
   ·exact .inr (by omega)
  ·exact .inl ((H.out.hM k).2 (.inr (.inl h1)))
  ·exact .inl ((H.out.hM k).2 (.inr (.inr h1)))
end Go.Proofs.Ytmbkaedhllfoeaa
namespace Go.Proofs.Ytmbkaedhllfoeaa
open Go.RowKit Go.Rst Go.Dv Go.Crc Go.Str Go.Pg
def runL (a : Nat) (b : Nat → List UInt8) (m : Nat) : List Wr := (List.range m).map fun i => (a + i, b i)
theorem runL_len (a : Nat) (b : Nat → List UInt8) (m : Nat) : (runL a b m).length = m := by simp [runL]
theorem runL_succ (a : Nat) (b : Nat → List UInt8) (m : Nat) : runL a b (m + 1) = runL a b m ++ [(a + m, b m)] := by simp [runL, List.range_succ]
theorem runL_wat {a : Nat} {b : Nat → List UInt8} {m j : Nat} (h : j < m) : wat (runL a b m) j = (a + j, b j) := by
 rw [wat_in (by rw [runL_len]; exact h)]
 simp [runL]
def sec (F : List (List UInt8)) (i : Nat) : List UInt8 := F.getD i []
theorem sec_of {F : List (List UInt8)} {i : Nat} (h : i < F.length) : F[i]? = some (sec F i) := by
 unfold sec
 rw [List.getD_eq_getElem?_getD, List.getElem?_eq_getElem h]
 rfl
theorem sec_get {F F' : List (List UInt8)} {i : Nat} (h : F[i]? = F'[i]?) : sec F i = sec F' i := by
 unfold sec
 rw [List.getD_eq_getElem?_getD, List.getD_eq_getElem?_getD, h]
theorem sec_some {F : List (List UInt8)} {i : Nat} {b : List UInt8} (h : F[i]? = some b) : sec F i = b := by
 unfold sec
 rw [List.getD_eq_getElem?_getD, h]
 rfl
theorem sec_len {F : List (List UInt8)} (h : ∀ x ∈ F, x.length = 64) {i : Nat} (hi : i < F.length) : (sec F i).length = 64 := by
 have := sec_of hi
 exact h _ (List.mem_of_getElem? this)
theorem kept_run {F : List (List UInt8)} {a m : Nat} {b : Nat → List UInt8} {K : List Bool} : ∀ k, k ≤ m → ∀ i, (kept F (runL a b m) K k)[i]? = if a ≤ i ∧ i < a + k ∧ K.getD (i - a) false = true ∧ i < F.length then some (b (i - a)) else F[i]?
 | 0, _, i => by
  rw [kept, if_neg (by omega)]
 | k + 1, h, i => by
  have ih := kept_run (F := F) (a := a) (m := m) (b := b) (K := K) k (by omega) i
  rw [kept]
  by_cases hK : K.getD k false = true
  ·rw [if_pos hK, runL_wat (by omega), List.getElem?_set, kept_length]
   by_cases hi : a + k = i
   ·subst hi
    have e : a + k - a = k := by omega
    simp only [if_true, e]
    by_cases hF : a + k < F.length
    ·rw [if_pos hF, if_pos ⟨by omega, by omega, hK, hF⟩]
    ·rw [if_neg hF, if_neg (fun h => hF h.2.2.2), List.getElem?_eq_none (by omega)]
   ·rw [if_neg hi, ih]
    by_cases hc : a ≤ i ∧ i < a + k ∧ K.getD (i - a) false = true ∧ i < F.length
    ·rw [if_pos hc, if_pos ⟨hc.1, by omega, hc.2.2⟩]
    ·rw [if_neg hc, if_neg (fun h => hc ⟨h.1, by omega, h.2.2⟩)]
  ·rw [if_neg hK, ih]
   by_cases hc : a ≤ i ∧ i < a + k ∧ K.getD (i - a) false = true ∧ i < F.length
   ·rw [if_pos hc, if_pos ⟨hc.1, by omega, hc.2.2⟩]
   ·rw [if_neg hc, if_neg (fun h => hc ⟨h.1, by
     have h1 := h.2.1
     by_cases hi : i = a + k
     ·subst hi
      rw [show a + k - a = k by omega] at h
      exact (hK h.2.2.1).elim
     ·omega, h.2.2⟩)]
theorem write_dead {s : Sim} (h : s.goes = false) (i : Int) (b : List UInt8) : s.write i b = s := by
 unfold Sim.write
 rw [h, Bool.and_false, if_neg (by decide)]
theorem flush_dead {s : Sim} (h : s.goes = false) : s.flush = s := by
 unfold Sim.flush
 rw [h, if_neg (by decide)]
theorem writeL_dead {s : Sim} (h : s.goes = false) (a : Nat) (ps : List (List UInt8)) : ∀ k, writeL s a ps k = s
 | 0 => rfl
 | k + 1 => by rw [writeL, writeL_dead h a ps k, write_dead h]
theorem layS_dead {s : Sim} (h : s.goes = false) (ep ar : Nat) (ps : List (List UInt8)) : layS s ep ar ps = s := by
 unfold layS
 rw [writeL_dead h, flush_dead h, write_dead h, flush_dead h]
theorem write_live {s : Sim} {i : Nat} {b : List UInt8} (hi : i < s.firm.length) (hb : b.length ≤ 64) (h : s.goes = true) : s.write (i : Int) b = s.put i b := by
 unfold Sim.write
 have e : s.has (i : Int) = true := by rw [Sim.has_iff]; omega
 rw [e, h, decide_eq_true hb, if_pos (by decide)]
 rfl
theorem flush_live {s : Sim} (h : s.goes = true) : s.flush.firm = kept s.firm s.loose (List.replicate s.loose.length true) s.loose.length ∧ s.flush.loose = [] := by
 unfold Sim.flush
 rw [h, if_pos (by rfl)]
 exact ⟨rfl, rfl⟩
theorem writeL_run {s : Sim} {a : Nat} {ps : List (List UInt8)} (h64 : ∀ p ∈ ps, p.length ≤ 64) : ∀ k, k ≤ ps.length → a + k ≤ s.firm.length →
  ∃ j, j ≤ k ∧ (writeL s a ps k).loose = s.loose ++ runL a (fun i => pad (ps.getD i [])) j ∧ (j < k → (writeL s a ps k).goes = false)
 | 0, _, _ => ⟨0, Nat.le_refl _, by simp [writeL, runL], fun h => absurd h (by omega)⟩
 | k + 1, hk, ha => by
  obtain ⟨j, hj, hl, hg⟩ := writeL_run (s := s) (a := a) h64 k (by omega) (by omega)
  rw [writeL]
  by_cases hgo : (writeL s a ps k).goes = true
  ·have hjk : j = k := by
    rcases Nat.lt_or_ge j k with h | h
    ·rw [hg h] at hgo; cases hgo
    ·omega
   subst hjk
   have hb : (ps.getD j []).length ≤ 64 := by
    rw [List.getD_eq_getElem?_getD, List.getElem?_eq_getElem (by omega)]
    exact h64 _ (List.getElem_mem _)
   have e : ((a + j : Nat) : Int) = ((a + j : Nat) : Int) := rfl
   rw [write_live (i := a + j) (by rw [writeL_firm]; omega) hb hgo]
   refine ⟨j + 1, Nat.le_refl _, ?_, fun h => absurd h (by omega)⟩
   show (writeL s a ps j).loose ++ [(a + j, pad (ps.getD j []))] = _
   rw [hl, runL_succ, List.append_assoc]
  ·have hgo' : (writeL s a ps k).goes = false := by simpa using hgo
   rw [write_dead hgo']
   exact ⟨j, by omega, hl, fun _ => hgo'⟩
theorem pad_same {b : List UInt8} (h : b.length = 64) : pad b = b := by unfold pad; rw [h]; simp
theorem writeL_kept {s : Sim} {a : Nat} {ps : List (List UInt8)} (hl : s.loose = []) (h64 : ∀ p ∈ ps, p.length = 64) (ha : a + ps.length ≤ s.firm.length) :
  ∃ j, j ≤ ps.length ∧ (j < ps.length → (writeL s a ps ps.length).goes = false) ∧ (writeL s a ps ps.length).loose.length = j ∧
   ∀ K i, (kept s.firm (writeL s a ps ps.length).loose K j)[i]? = if a ≤ i ∧ i < a + j ∧ K.getD (i - a) false = true ∧ i < s.firm.length then some (sec ps (i - a)) else s.firm[i]? := by
 obtain ⟨j, hj, h1, h2⟩ := writeL_run (s := s) (a := a) (fun p hp => Nat.le_of_eq (h64 p hp)) ps.length (Nat.le_refl _) ha
 rw [hl, List.nil_append] at h1
 refine ⟨j, hj, h2, by rw [h1, runL_len], fun K i => ?_⟩
 rw [h1, kept_run j (Nat.le_refl _) i]
 by_cases hc : a ≤ i ∧ i < a + j ∧ K.getD (i - a) false = true ∧ i < s.firm.length
 ·rw [if_pos hc, if_pos hc]
  show some (pad (sec ps (i - a))) = _
  rw [pad_same (sec_len h64 (by omega))]
 ·rw [if_neg hc, if_neg hc]
theorem trues_get {n i : Nat} (h : i < n) : (List.replicate n true).getD i false = true := by
 rw [List.getD_eq_getElem?_getD, List.getElem?_replicate, if_pos h]
 rfl
theorem writeL_flush {s : Sim} {a : Nat} {ps : List (List UInt8)} (hl : s.loose = []) (h64 : ∀ p ∈ ps, p.length = 64) (ha : a + ps.length ≤ s.firm.length) (hg : (writeL s a ps ps.length).goes = true) :
  (writeL s a ps ps.length).flush.loose = [] ∧ ∀ i, (writeL s a ps ps.length).flush.firm[i]? = if a ≤ i ∧ i < a + ps.length then some (sec ps (i - a)) else s.firm[i]? := by
 obtain ⟨j, hj, h1, h2, h3⟩ := writeL_kept hl h64 ha
 have hjp : j = ps.length := by
  rcases Nat.lt_or_ge j ps.length with h | h
  ·rw [h1 h] at hg; cases hg
  ·omega
 obtain ⟨f1, f2⟩ := flush_live hg
 refine ⟨f2, fun i => ?_⟩
 rw [f1, h2, writeL_firm, h3, hjp]
 by_cases hc : a ≤ i ∧ i < a + ps.length
 ·rw [if_pos ⟨hc.1, hc.2, trues_get (by omega), by omega⟩, if_pos hc]
 ·rw [if_neg (fun h => hc ⟨h.1, h.2.1⟩), if_neg hc]
theorem goes_none {s : Sim} (h : s.fuse = none) : s.goes = true := by unfold Sim.goes; rw [h]; rfl
theorem write_fuse {s : Sim} (h : s.fuse = none) (i : Int) (b : List UInt8) : (s.write i b).fuse = none := by
 unfold Sim.write
 split
 ·show s.fuse.map _ = none; rw [h]; rfl
 ·exact h
theorem flush_fuse {s : Sim} (h : s.fuse = none) : s.flush.fuse = none := by
 unfold Sim.flush
 split
 ·show s.fuse.map _ = none; rw [h]; rfl
 ·exact h
theorem writeL_fuse {s : Sim} (h : s.fuse = none) (a : Nat) (ps : List (List UInt8)) : ∀ k, (writeL s a ps k).fuse = none
 | 0 => h
 | k + 1 => write_fuse (writeL_fuse h a ps k) _ _
theorem layS_fuse {s : Sim} (h : s.fuse = none) (ep ar : Nat) (ps : List (List UInt8)) : (layS s ep ar ps).fuse = none := by
 unfold layS
 exact flush_fuse (write_fuse (flush_fuse (writeL_fuse h _ _ _)) _ _)
end Go.Proofs.Ytmbkaedhllfoeaa
namespace Go.Proofs.Ytmbkaedhllfoeaa
open Go.RowKit Go.Rst Go.Dv Go.Crc Go.Str Go.Pg
abbrev Rx : Type := ByteArray × List UInt8 × Value
def rx (x : Rx) : Rw := (x.1, x.2.1)
theorem rr_cells {w : World} {v : Value} {rs : List Rw} (h : RR w v rs) : ∃ us : List Rx, us.map rx = rs ∧ (∀ w', Below w.heap.size w w' → Src Try.prog 2 40 v us.length (rowCells us) w') ∧ ∀ x ∈ us, RB w x.2.2 x.2.1 := by
 obtain ⟨A, c, rfl, h1, h2, h3⟩ := h
 rcases h3 with rfl | ⟨b, off, rfl, hb, hcell⟩
 ·refine ⟨[], rfl, fun w' _ => ?_, fun x hx => (by cases hx)⟩
  cases A with
  | none => exact Src.ofNil w' Try.underlying40 c
  | some a => exact Src.ofSlice w' Try.underlying40 a 0 c [] rfl (fun j u hj => by simp at hj) (fun u hu => by cases hu)
 ·obtain ⟨us, hus⟩ : ∃ us : List Rx, us = (List.range rs.length).map fun j => ((rs.getD j (⟨#[]⟩, [])).1, (rs.getD j (⟨#[]⟩, [])).2, (w.cell? ⟨b, off + j * 2 + 1, none⟩).getD undef) := ⟨_, rfl⟩
  have hlen : us.length = rs.length := by rw [hus]; simp
  have hget : ∀ j (hj : j < us.length) (hj2 : j < rs.length), us[j].1 = rs[j].1 ∧ us[j].2.1 = rs[j].2 ∧ w.cell? ⟨b, off + j * 2 + 1, none⟩ = some us[j].2.2 ∧ RB w us[j].2.2 us[j].2.1 := by
   intro j hj hj2
   obtain ⟨_, u, e2, e3⟩ := hcell j hj2
   have e : us[j] = (rs[j].1, rs[j].2, u) := by
    have : us[j]? = some (rs[j].1, rs[j].2, u) := by
     rw [hus, List.getElem?_map, List.getElem?_range hj2]
     simp only [Option.map_some]
     rw [List.getD_eq_getElem?_getD, List.getElem?_eq_getElem hj2, e2]
     rfl
    rw [List.getElem?_eq_getElem hj] at this
    injection this
   rw [e]
   exact ⟨rfl, rfl, e2, e3⟩
  refine ⟨us, ?_, ?_, fun x hx => ?_⟩
  ·apply List.ext_getElem (by rw [List.length_map, hlen])
   intro j g1 g2
   rw [List.getElem_map]
   obtain ⟨a1, a2, _⟩ := hget j (by omega) g2
   unfold rx
   rw [a1, a2]
  ·intro w' hbel
   rw [← hlen]
   refine Src.ofSlice w' Try.underlying40 ⟨b, off, none⟩ us.length c (rowCells us) (rowCells_length us) (fun j u hj => ?_) (fun u hu => ?_)
   ·have hj' : j < us.length * 2 := by
     have := (List.getElem?_eq_some_iff.1 hj).1
     rw [rowCells_length] at this
     exact this
    obtain ⟨q1, q2⟩ := rowCells_get us (j / 2) (by omega)
    obtain ⟨a1, a2, a3, _⟩ := hget (j / 2) (by omega) (by omega)
    obtain ⟨c1, _⟩ := hcell (j / 2) (by omega)
    rcases Nat.mod_two_eq_zero_or_one j with h0 | h0
    ·have ej : j / 2 * 2 = j := by omega
     rw [ej] at q1 c1
     rw [q1] at hj
     injection hj with hj
     rw [← hj, a1]
     have : (Addr.mk b off none).add j = ⟨b, off + j, none⟩ := by by_cases h0 : j = 0 <;> simp [Addr.add, h0]
     rw [this]
     exact (hbel.cell (p := ⟨b, off + j, none⟩) hb).trans c1
    ·have ej : j / 2 * 2 + 1 = j := by omega
     rw [Nat.add_assoc, ej] at a3
     rw [ej] at q2
     rw [q2] at hj
     injection hj with hj
     rw [← hj]
     have : (Addr.mk b off none).add j = ⟨b, off + j, none⟩ := by by_cases h0 : j = 0 <;> simp [Addr.add, h0]
     rw [this]
     exact (hbel.cell (p := ⟨b, off + j, none⟩) hb).trans a3
   ·unfold rowCells at hu
    obtain ⟨x, hx, hu⟩ := List.mem_flatMap.1 hu
    obtain ⟨j, hj, rfl⟩ := List.getElem_of_mem hx
    obtain ⟨_, _, _, A4, c4, e4, _⟩ := hget j hj (by omega)
    simp only [List.mem_cons, List.not_mem_nil, or_false] at hu
    rcases hu with rfl | rfl
    ·rfl
    ·rw [e4]; rfl
  ·obtain ⟨j, hj, rfl⟩ := List.getElem_of_mem hx
   exact (hget j hj (by omega)).2.2.2
set_option maxRecDepth 100000 in
set_option maxHeartbeats 1000000 in
theorem cloneR_any (v : Value) (rs : List Rw) (w : World) (h : RR w v rs) (hl : rs.length ≤ 1000000) :
  Calls Try.prog 36 #[v] w fun e w' => ∃ u, e = .returned u ∧ (∃ us : List Rx, us.map rx = rs ∧ w'.ownsRow w.heap.size 47 2 u us.length (rowCells us) ∧ ∀ x ∈ us, RB w x.2.2 x.2.1) ∧ Below w.heap.size w w' := by
 obtain ⟨us, hus, hsrc0, hrb⟩ := rr_cells h
 have hsrc := hsrc0 (w.alloc (Obj.cells #[] 47)) ((Below.refl _ _).alloc (Nat.le_refl _) _)
 have hlen : us.length = rs.length := by rw [← hus]; simp
 have HS := Lib.hid hsrc
 have HLM := Lib.hid (show 0 + us.length ≤ maxLen by unfold maxLen; omega)
 have HLB := Lib.hid (show (0 + us.length) * 40 ≤ 140737488355328 by omega)
 have HO := Lib.hid (own_emptyB w 47 2)
 have HRB := Lib.hid hrb
 have HU := Lib.hid hus
 have HH := Lib.hid h
 obtain ⟨A, c, rfl, _, _, h3⟩ := h
 cases A with
 | none =>
  have hl0 : rs = [] := by
   rcases h3 with h3 | ⟨b, off, h4, _⟩
   ·exact h3
   ·cases h4
  have e1 : (binOp .eql 40 (.slice none rs.length c) (.slice none 0 0)).run Try.prog w = .ok (.bool true) w := eql_nilB w 40 47 none rs.length c Try.underlying40
  have HL0 := Lib.hid hl0
  clear h3 hl0 hus hsrc hrb hsrc0 hlen
  go_enter Try.func36, Try.ntmps36
  go_wp2
  go_ret
  refine ⟨_, rfl, ⟨[], HL0.out.symm, World.ownsRow_nil _ _ _ _, fun _ h => by cases h⟩, Below.refl _ _⟩
 | some a =>
  have e1 : (binOp .eql 40 (.slice (some a) rs.length c) (.slice none 0 0)).run Try.prog w = .ok (.bool false) w := eql_nilB w 40 47 (some a) rs.length c Try.underlying40
  have HLEN := Lib.hid hlen
  clear h3 hus hsrc hrb hsrc0 hlen
  go_enter Try.func36, Try.ntmps36
  go_wp2_with (at_builtin; refine wpList_own rfl (.tmp 5) (.tmp 6) 40 40 rfl w.heap.size 47 (.agg #[.string ⟨#[]⟩, .slice none 0 0]) 2 40 Try.underlying40 info47 rfl rfl HO.out rfl HS.out ((Below.refl w.heap.size w).alloc (Nat.le_refl _) _) (Nat.le_refl _) HLM.out HLB.out (by simp) ?_)
  intro v5 w5 hown5 hbel5 _
  have HO5 := Lib.hid hown5
  have HB5 := Lib.hid hbel5
  obtain ⟨A5, c5, rfl, _⟩ := own_shape hown5
  clear hown5 hbel5
  go_wp2
  go_ret
  exact ⟨_, rfl, ⟨us, HU.out, HO5.out, HRB.out⟩, HB5.out⟩
theorem set_mid {α : Type} {ns us : List α} {k : Nat} (h : ns.length = k) (hk : k < us.length) (y : α) : (ns ++ us.drop k).set k y = (ns ++ [y]) ++ us.drop (k + 1) := by
 subst h
 rw [List.set_append_right _ _ (Nat.le_refl _), Nat.sub_self, List.drop_eq_getElem_cons hk, List.set_cons_zero, List.append_assoc]
 rfl
theorem rows_step {ns us : List Rx} {k : Nat} (h : ns.length = k) (hk : k < us.length) (u : Value) : rowCells ((ns ++ [(us[k].1, us[k].2.1, u)]) ++ us.drop (k + 1)) = (rowCells (ns ++ us.drop k)).set (k * 2 + 1) u := by
 have hkc : k < (ns ++ us.drop k).length := by rw [List.length_append, List.length_drop]; omega
 have hke : (ns ++ us.drop k)[k] = us[k] := by
  rw [List.getElem_append_right (by omega), List.getElem_drop]
  congr 1
  omega
 have := rowCells_setV (ns ++ us.drop k) k hkc (us[k].2.1, u)
 rw [hke, set_mid h hk] at this
 exact this
set_option maxRecDepth 100000 in
set_option maxHeartbeats 2000000 in
theorem rowsS_any {dg : Nat} {M : Nat → Prop} {w : World} {sv : Value} {x : Ss} (h : Sto dg M w sv x) (hl : x.rows.length ≤ 1000000) (hv : ∀ r ∈ x.rows, r.2.length ≤ 1000000) :
  Calls Try.prog 14 #[sv] w fun e w' => ∃ v, e = .returned v ∧ OR 5 47 w' w.heap.size v x.rows ∧ Below w.heap.size w w' := by
 obtain ⟨D, R, g, rv, rfl, h⟩ := h
 have c1 := h.blk.cell 1
 unfold sc at c1
 simp at c1
 obtain ⟨Ar, cr, hrv, _⟩ := rr_shape h.rows.rr
 have hcl := cloneR_any rv x.rows w h.rows.rr hl
 subst hrv
 have HCL := Lib.hid hcl
 have HV := Lib.hid hv
 have HL := Lib.hid hl
 clear h hcl hl hv
 go_enter Try.func14, Try.ntmps14
 go_wp2_with fail
 go_at_call 36
 refine HCL.out.mono ?_
 rintro e w1 ⟨u, rfl, ⟨us, hus, ho, hrb⟩, hb1⟩
 have hlen : us.length = x.rows.length := by rw [← hus]; simp
 have hul : us.length ≤ 1000000 := by rw [hlen]; exact HL.out
 have huv : ∀ y ∈ us, y.2.1.length ≤ 1000000 := fun y hy => HV.out (rx y) (by rw [← hus]; exact List.mem_map.2 ⟨y, hy, rfl⟩)
 obtain ⟨A, c, rfl, hsh⟩ := own_shape ho
 have HUS := Lib.hid hus
 have HO := Lib.hid ho
 have HRB := Lib.hid hrb
 have HB1 := Lib.hid hb1
 have HUV := Lib.hid huv
 clear hus ho hrb hb1 hlen huv c1
 obtain ⟨n, hn⟩ : ∃ n, n = us.length := ⟨_, rfl⟩
 rw [← hn] at hul ⊢
 have HN := Lib.hid hn
 clear hn
 go_wp2_with fail
 go_loopw [14] (fun i wr => ∃ k : Nat, k ≤ n ∧ i = .int .i64 k ∧ Below w.heap.size w wr ∧ ∃ ns : List Rx, ns.length = k ∧ ns.map rx = (us.take k).map rx ∧ wr.ownsRow w.heap.size 47 2 (.slice A n c) n (rowCells (ns ++ us.drop k)) ∧ ∀ y ∈ ns, FB 5 wr w.heap.size y.2.2 y.2.1) (fun i _ => n - (intOf i).toNat)
 case atStart => exact ⟨0, Nat.zero_le _, rfl, HB1.out, [], rfl, rfl, by have h := HO.out; rw [← HN.out] at h; exact h, fun _ h => by cases h⟩
 case round =>
  obtain ⟨k, hk, rfl, hbw, ns, hnl, hnm, how, hnf⟩ := hrel
  by_cases hlt : k < n
  ·have hN := HN.out
   have hkus : k < us.length := by omega
   obtain ⟨g2, hA⟩ : ∃ g2, A = some ⟨g2, 0, none⟩ := by
    rcases how.2 with ⟨he, h0⟩ | ⟨g2, cap, cur, he, _⟩
    ·omega
    ·injection he with he _ _
     exact ⟨g2, he⟩
   subst hA
   have hg2 : w.heap.size ≤ g2 ∧ g2 < wr.heap.size := by
    rcases how.2 with ⟨he, _⟩ | ⟨g', cap', cur', he', hbb', hg', _⟩
    ·cases he
    ·injection he' with he' _ _; injection he' with he'; injection he' with he' _; subst he'; exact ⟨hbb', (Array.getElem?_eq_some_iff.1 hg').1⟩
   have hcat : (ns ++ us.drop k).length = us.length := by rw [List.length_append, List.length_drop]; omega
   have hkc : k < (ns ++ us.drop k).length := by omega
   have hke : (ns ++ us.drop k)[k] = us[k] := by
    rw [List.getElem_append_right (by omega), List.getElem_drop]
    congr 1
    omega
   obtain ⟨q1, q2⟩ := rowCells_get (ns ++ us.drop k) k hkc
   rw [hke] at q1 q2
   have hc2 := how.cells (g := g2) rfl _ _ q2
   rw [Addr.add_lit] at hc2
   simp only [Nat.zero_add] at hc2
   have hrbk := (HRB.out us[k] (List.getElem_mem hkus)).below hbw
   have hcall := cloneB_any us[k].2.2 us[k].2.1 wr hrbk (by have := HUV.out us[k] (List.getElem_mem hkus); omega)
   obtain ⟨A9, c9, h9⟩ := rb_shape hrbk
   rw [h9] at hc2 hcall
   have HCALL := Lib.hid hcall
   have HOW := Lib.hid how
   have HNF := Lib.hid hnf
   have HNM := Lib.hid hnm
   have HNL := Lib.hid hnl
   have HBW := Lib.hid hbw
   have HG2 := Lib.hid hg2
   have HC := Lib.hid hcat
   have HC2 := Lib.hid hc2
   have HKU := Lib.hid hkus
   clear hcall how hnf hnm hnl hbw hg2 hcat q1 q2 h9 hrbk hke hkc hN
   go_wp2_with fail
   go_at_call 37
   refine HCALL.out.mono ?_
   rintro e w2 ⟨u2, rfl, hfb, hb2⟩
   obtain ⟨A8, c8, rfl⟩ := hfb.shape
   have hc3 : w2.cell? ⟨g2, k * 2 + 1, none⟩ = _ := (hb2.cell (p := ⟨g2, k * 2 + 1, none⟩) HG2.out.2).trans HC2.out
   have how2 := own_below HOW.out hb2
   have hfz : w2.frozen? ⟨g2, k * 2 + 1, none⟩ = false := by
    rcases how2.2 with ⟨he, _⟩ | ⟨g', cap', cur', he', hbb', hg', _⟩
    ·cases he
    ·injection he' with he' _ _; injection he' with he'; injection he' with he' _; subst he'
     simp [World.frozen?, hg']
   have HOW2 := Lib.hid how2
   have HFB := Lib.hid hfb
   have HB2 := Lib.hid hb2
   clear hfb hb2 how2 hc2
   go_wp2_with fail
   have hst := own_set HOW2.out (k * 2 + 1) (.slice A8 us[k].2.1.length c8)
   rw [← rows_step HNL.out hkus] at hst
   have hstep : ∃ ns' : List Rx, ns'.length = k + 1 ∧ ns'.map rx = (us.take (k + 1)).map rx ∧ (w2.setCell ⟨g2, k * 2 + 1, none⟩ (.slice A8 us[k].2.1.length c8)).ownsRow w.heap.size 47 2 (.slice (some ⟨g2, 0, none⟩) n c) n (rowCells (ns' ++ us.drop (k + 1))) ∧ ∀ y ∈ ns', FB 5 (w2.setCell ⟨g2, k * 2 + 1, none⟩ (.slice A8 us[k].2.1.length c8)) w.heap.size y.2.2 y.2.1 := by
    refine ⟨ns ++ [(us[k].1, us[k].2.1, .slice A8 us[k].2.1.length c8)], by rw [List.length_append, HNL.out]; rfl, ?_, hst, fun y hy => ?_⟩
    ·rw [List.map_append, HNM.out, List.take_succ_eq_append_getElem hkus, List.map_append]
     rfl
    ·refine fb_own HOW2.out (by decide) _ _ ?_
     rcases List.mem_append.1 hy with hy | hy
     ·exact (HNF.out y hy).below HB2.out
     ·simp only [List.mem_singleton] at hy
      subst hy
      exact HFB.out.base_ (Nat.le_of_lt (Nat.lt_of_le_of_lt HG2.out.1 HG2.out.2))
   have HSTEP := Lib.hid hstep
   have HBE := Lib.hid ((HBW.out.trans (HB2.out.mono HBW.out.size)).setCell (p := ⟨g2, k * 2 + 1, none⟩) HG2.out.1 (.slice A8 us[k].2.1.length c8))
   clear hst hstep
   exact ⟨⟨k + 1, hlt, rfl, HBE.out, HSTEP.out⟩, by simp only [intOf]; omega⟩
  ·obtain rfl : k = n := by omega
   have hd : us.drop k = [] := List.drop_eq_nil_of_le (by have := HN.out; omega)
   have ht : us.take k = us := List.take_of_length_le (by have := HN.out; omega)
   rw [hd, List.append_nil] at how
   rw [ht] at hnm
   have HOW := Lib.hid how
   have HNF := Lib.hid hnf
   have HNM := Lib.hid hnm
   have HNL := Lib.hid hnl
   have HBW := Lib.hid hbw
   clear how hnf hnm hnl hbw hd ht
   go_wp2
   go_ret
   refine ⟨_, rfl, ⟨ns, ?_, by rw [HNL.out]; exact HOW.out, HNF.out⟩, HBW.out⟩
   exact HNM.out.trans HUS.out
end Go.Proofs.Ytmbkaedhllfoeaa
