/-
  The walk of TreeSpoilt: it answers true of any choices and numbers.
-/
import Derived.Test.YtbacdeogggcbfaaScansW6
import Derived.Test.YtbacdeogggcbfaaOrSet
namespace Go.Proofs.Ytbacdeogggcbfaa
open Go.RowKit Go.Rst Go.Pg Go.Crc
theorem rp_take {w : World} {A : Option Addr} {m c : Nat} {ps : List (List UInt8)} (h : RP w (.slice A m c) ps) {n : Nat} (hn : n ≤ ps.length) : RP w (.slice A n c) (ps.take n) := by
  obtain ⟨A', c', he, h1, h2, h3⟩ := h
  injection he with e1 _ e3
  subst e1
  subst e3
  have hl : (ps.take n).length = n := by rw [List.length_take]; omega
  refine ⟨A, c, by rw [hl], by omega, h2, ?_⟩
  rcases h3 with rfl | ⟨b, off, rfl, hb, hc⟩
  · exact .inl (by simp)
  · refine .inr ⟨b, off, rfl, hb, fun j hj => ?_⟩
    have := hc j (by omega)
    rw [List.getElem_take]
    exact this
theorem rp_made {w : World} {base n c g I : Nat} {us : List (List UInt8 × Value)} {ps : List (List UInt8)} {u : Value} {l : List UInt8} (ho : w.ownsRow base 23 1 (.slice (some ⟨g, 0, none⟩) n c) n (us.map (·.2))) (hus : us.map (·.1) = ps) (hn : n = ps.length) (hg : g < w.heap.size) (hnc : n ≤ c) (hcm : c ≤ maxLen)
    (hb : ∀ x ∈ us, RB (w.setCell ⟨g, I, none⟩ u) x.2 x.1) (hu : RB (w.setCell ⟨g, I, none⟩ u) u l) (_hI : I < n) : RP (w.setCell ⟨g, I, none⟩ u) (.slice (some ⟨g, 0, none⟩) n c) (ps.set I l) := by
  have ho' := own_set ho I u
  have hul : us.length = ps.length := by rw [← hus, List.length_map]
  refine ⟨some ⟨g, 0, none⟩, c, by rw [List.length_set, hn], by rw [List.length_set, ← hn]; exact hnc, hcm, .inr ⟨g, 0, rfl, by simpa using hg, fun j hj => ?_⟩⟩
  rw [List.length_set] at hj
  by_cases e : I = j
  · subst e
    have hc := ho'.cells (g := g) rfl I u (by rw [List.getElem?_set_self (by rw [List.length_map, hul]; exact hj)])
    rw [Addr.add_lit] at hc
    exact ⟨u, hc, by rw [List.getElem_set_self]; exact hu⟩
  · have hj2 : j < us.length := by omega
    have hc := ho'.cells (g := g) rfl j us[j].2 (by rw [List.getElem?_set_ne e, List.getElem?_map, List.getElem?_eq_getElem hj2]; rfl)
    rw [Addr.add_lit] at hc
    refine ⟨us[j].2, hc, ?_⟩
    rw [List.getElem_set_ne e]
    have h1 := hb us[j] (List.getElem_mem hj2)
    have h2 : us[j].1 = ps[j] := by
      have : (us.map (·.1))[j]'(by rw [List.length_map]; exact hj2) = ps[j] := by simp only [hus]
      rw [List.getElem_map] at this
      exact this
    rw [← h2]
    exact h1

set_option maxRecDepth 100000 in
set_option maxHeartbeats 8000000 in
theorem spoilt_walk (vc : Value) (l : List UInt8) (n at_ k v : Nat) (w : World) (hc : RB w vc l) (hl : l.length ≤ 140737488351232) (hn : n ≤ 255) (hat : at_ ≤ 65535) (hk : k ≤ 255) (hv : v ≤ 255) :
    Calls Try.prog 6 #[vc, .int .u8 n, .int .u16 at_, .int .u8 k, .int .u8 v] w fun e w' => e = .returned (.bool true) ∧ Below w.heap.size w w' := by
  have HC := Lib.hid hc
  obtain ⟨A3, c3, rfl, hl3, hc3, _⟩ := hc
  unfold maxLen at hc3
  have K0 := Lib.hid (manyT_any n 40 hn (by decide) w)
  have hn0 : (0 : Int) ≤ (n : Int) := by omega
  by_cases hpar : n % 2 = 0
  · have hpar' : ((n : Int) % 2 == 0) = true := by rw [beq_iff_eq]; omega
    go_enter Try.func6, Try.ntmps6
    go_wp2_with fail
    refine K0.out.mono ?_
    rintro e w1 ⟨v1, rfl, ho1, hb1⟩
    have HB1 := Lib.hid hb1
    obtain ⟨A1, c1, rfl⟩ := or_shape ho1
    have K1 := Lib.hid (risT_any _ l 50 (by decide) w1 (HC.out.below hb1) hl)
    obtain ⟨hg, hso, hle⟩ := ris_good l 50
    generalize risL (rowsAt l (nrows l 50)) = rs at *
    have HG := Lib.hid hg
    have HSO := Lib.hid hso
    have HLE := Lib.hid (show rs.length ≤ 300 by omega)
    clear ho1 hb1 K0 hg hso
    go_wp2_with fail
    refine K1.out.mono ?_
    rintro e w2 ⟨v2, rfl, ho2, hb2⟩
    have HB2 := Lib.hid (HB1.out.trans (hb2.mono HB1.out.size))
    have HO2 := Lib.hid (ho2.base_ (base' := w.heap.size) HB1.out.size)
    obtain ⟨A2, c2, rfl⟩ := or_shape ho2
    clear ho2 hb2 K1
    obtain ⟨ps, hps, hpl, hp0⟩ := build_some HSO.out (by have := HLE.out; omega) HG.out
    have hrows := rows_tree hps
    have hless := rows_less hps
    have hspo := fun i (hi : i < ps.length) => rows_spoilt hps hi
    have k3 := build_any _ rs w2 HO2.out.rr
    rw [hps] at k3
    have K3 := Lib.hid k3
    have HLESS := Lib.hid hless
    have HSPO := Lib.hid hspo
    clear k3 hps hrows hless hspo
    go_wp2_with fail
    refine K3.out.mono ?_
    rintro e w3 ⟨p3, rfl, hp3, hb3⟩
    have hp3 : OP 5 23 w3 w2.heap.size p3 ps := hp3
    have HB3 := Lib.hid (HB2.out.trans (hb3.mono HB2.out.size))
    have HO3 := Lib.hid (HO2.out.below hb3)
    have HP3 := Lib.hid hp3
    obtain ⟨Ap, cp, hpv, hcp63, hcpl⟩ := hp3.shape
    obtain ⟨np, hnp⟩ : ∃ np, np = ps.length := ⟨_, rfl⟩
    rw [← hnp] at hpv hcpl
    subst hpv
    obtain ⟨I, hIe, hIn⟩ : ∃ I : Nat, (at_ : Int) % (np : Int) = (I : Int) ∧ I < ps.length := ⟨at_ % np, by rw [Int.natCast_emod], by rw [← hnp]; exact Nat.mod_lt _ (by omega)⟩
    have hInp : I < np := by omega
    have hnp1 : np ≤ 1000 := by omega
    have hnp0' : ((np : Int) == 0) = false := by rw [beq_eq_false_iff_ne]; omega
    obtain ⟨bp, op, up, hAp, hbp, hup, hru⟩ := rp_at hp3.rp hIn
    subst hAp
    obtain ⟨h256, hsp⟩ := HSPO.out I hIn
    obtain ⟨pg, hpg⟩ : ∃ pg, pg = ps[I] := ⟨_, rfl⟩
    rw [← hpg] at hru
    have hsp' : ∀ (k : Nat) (hk : k < pg.length) (v : UInt8), (v = pg[k] ∧ (rowsT (ps.set I (pg.set k v))).2 = 0) ∨ (v ≠ pg[k] ∧ (rowsT (ps.set I (pg.set k v))).2 ≠ 0) := by
      subst hpg
      exact hsp
    have hpgl : pg.length = 256 := by rw [hpg]; exact h256
    have hsrc := hru.src (P := Try.prog) Try.underlying23
    obtain ⟨Au, cu, hupv, _, _, _⟩ := id hru
    rw [hpgl] at hupv hsrc
    subst hupv
    have hkl : k < pg.length := by omega
    obtain ⟨was, hwas⟩ : ∃ was, was = pg[k] := ⟨_, rfl⟩
    have hs := hsp' k hkl (UInt8.ofNat v)
    rw [← hwas] at hs
    have HS := Lib.hid hs
    have HNP := Lib.hid hnp
    have HRU := Lib.hid hru
    have HSRC := Lib.hid hsrc
    have HPGL := Lib.hid hpgl
    have HWAS := Lib.hid hwas
    clear hp3 hb3 K3 hnp hsp hsp' hpg h256 hru hsrc hpgl hs hwas
    have hat0 : (0 : Int) ≤ (at_ : Int) := by omega
    have hI0 : (0 : Int) ≤ (I : Int) := by omega
    have hI1 : (I : Int) < (np : Int) := by omega
    have hnil := World.ownsRow_nil w3 w3.heap.size 5 1
    have hb0 := Below.refl w3.heap.size w3
    go_wp2_with (at_builtin; refine wpList_own rfl (.tmp 47) (.tmp 51) 23 23 rfl w3.heap.size 5 (.int .u8 0) 1 1 Try.underlying23 info5 rfl rfl hnil rfl HSRC.out hb0 (Nat.le_refl _) ?_ ?_ ?_ ?_)
    · unfold maxLen; omega
    · omega
    · exact hb0.size
    intro v4 w4 ho4 hb4 hg4
    obtain ⟨g, c4, rfl, hbg, hgl, hc463, _, hfz⟩ := own_known ho4 (by decide)
    have hrb4 : RB w4 (.slice (some ⟨g, 0, none⟩) 256 c4) pg := by
      have h := RB.own (l := pg) (w := w4) (base := w3.heap.size) (e := 5) (v := .slice (some ⟨g, 0, none⟩) 256 c4) (by rw [HPGL.out]; exact ho4)
      exact h
    have hcell : w4.cell? ⟨g, k, none⟩ = some (.int .u8 (was.toNat : Int)) := by
      have h := hrb4
      rw [← HPGL.out] at h
      obtain ⟨b', o', he, _, h⟩ := rb_cell h hkl
      injection he with he
      injection he with e1 e2 _
      subst e1
      subst e2
      rw [Nat.zero_add, ← HWAS.out] at h
      exact h
    have hfk := hfz k
    have hset := rb_set (w := w4) (b := g) (o := 0) (k := k) hrb4 hkl (UInt8.ofNat v)
    rw [Nat.zero_add, ← bv_nat (n := v) (by omega)] at hset
    have hbW : Below w3.heap.size w3 (w4.setCell ⟨g, k, none⟩ (.int .u8 (v : Int))) := hb4.setCell (p := ⟨g, k, none⟩) hbg _
    have HP5 := Lib.hid (HP3.out.below hbW)
    have HB5 := Lib.hid (HB3.out.trans (hbW.mono HB3.out.size))
    have HO5 := Lib.hid (HO3.out.below hbW)
    have HSET := Lib.hid hset
    have hgl5 : g < (w4.setCell ⟨g, k, none⟩ (.int .u8 (v : Int))).heap.size := by simp; exact hgl
    have hk0 : (0 : Int) ≤ (k : Int) := by omega
    have hk1 : (k : Int) < 256 := by omega
    obtain ⟨w5, hw5⟩ : ∃ w5, w5 = w4.setCell ⟨g, k, none⟩ (.int .u8 (v : Int)) := ⟨_, rfl⟩
    rw [← hw5] at HP5 HB5 HO5 HSET hgl5
    obtain ⟨up, hup', hpo, hpf⟩ := HP5.out
    have hulp : up.length = np := by rw [HNP.out]; have h := congrArg List.length hup'; rw [List.length_map] at h; exact h
    have hone : ∀ x ∈ up, x.2.oneCell' = true := fun x hx => fb_one (hpf x hx)
    have hsrc5 := OP.src (tx := 33) hpo Try.underlying33 hone
    rw [hulp] at hsrc5
    have HSRC5 := Lib.hid hsrc5
    have HUPE := Lib.hid hup'
    have HULP := Lib.hid hulp
    have HPF := Lib.hid hpf
    have HW5 := Lib.hid hw5
    clear hnil hb0 ho4 hb4 hg4 hfz hrb4 hset hbW hsrc5 hup' hulp hpf hpo hone hw5
    have hnil := World.ownsRow_nil w5 w5.heap.size 23 1
    have hb0 := Below.refl w5.heap.size w5
    rw [HW5.out] at hnil hb0
    have HNIL := Lib.hid hnil
    have HB0 := Lib.hid hb0
    have HSRC6 := Lib.hid (show Src Try.prog 1 33 _ np (up.map (·.2)) (w4.setCell ⟨g, k, none⟩ (.int .u8 (v : Int))) by have := HSRC5.out; rw [HW5.out] at this; exact this)
    clear hnil hb0
    go_wp2_with (at_builtin; refine wpList_own rfl (.tmp 64) (.tmp 65) 33 33 rfl (w4.setCell ⟨g, k, none⟩ (.int .u8 (v : Int))).heap.size 23 (.slice none 0 0) 1 24 Try.underlying33 info23 rfl rfl HNIL.out rfl HSRC6.out HB0.out (Nat.le_refl _) ?_ ?_ ?_ ?_)
    · unfold maxLen; omega
    · omega
    · exact HB0.out.size
    intro v6 w6 ho6 hb6 hg6
    have hsz5 : w5.heap.size = w4.heap.size := by rw [HW5.out]; simp
    have hb6 : Below w5.heap.size w5 w6 := by
      first
        | (rw [HW5.out]; exact hb6)
        | (rw [hsz5, HW5.out]; exact hb6)
    rw [← hsz5] at ho6
    obtain ⟨g6, c6, rfl, hbg6, hgl6, hc663, hnc6, hfz6⟩ := own_known ho6 (by omega)
    have hcq := ho6.cells (g := g6) rfl I (up[I]'(by rw [HULP.out]; exact hInp)).2 (by rw [List.getElem?_map, List.getElem?_eq_getElem (by rw [HULP.out]; exact hInp)]; rfl)
    rw [Addr.add_lit, Nat.zero_add] at hcq
    have hfq := hfz6 I
    have hW7 : Below w5.heap.size w5 (w6.setCell ⟨g6, I, none⟩ (.slice (some ⟨g, 0, none⟩) 256 c4)) := hb6.setCell (p := ⟨g6, I, none⟩) hbg6 _
    have hrp := rp_made (I := I) (u := .slice (some ⟨g, 0, none⟩) 256 c4) ho6 HUPE.out HNP.out hgl6 hnc6 (by unfold maxLen; omega) (fun x hx => ((HPF.out x hx).rb).below hW7) (HSET.out.below hW7) hInp
    obtain ⟨w7, hw7⟩ : ∃ w7, w7 = w6.setCell ⟨g6, I, none⟩ (.slice (some ⟨g, 0, none⟩) 256 c4) := ⟨_, rfl⟩
    rw [← hw7] at hW7 hrp
    have k7 := rows_any _ _ w7 hrp
    unfold GivesRw at k7
    have hs7 := HS.out
    generalize hr7 : rowsT (ps.set I (pg.set k (UInt8.ofNat v))) = r7 at *
    obtain ⟨rows7, e7⟩ := r7
    simp only [] at hs7
    have K7 := Lib.hid k7
    have HS7 := Lib.hid hs7
    have HW7 := Lib.hid hw7
    have HP7 := Lib.hid (HP5.out.below hW7)
    have HB7 := Lib.hid (HB5.out.trans (hW7.mono HB5.out.size))
    have HO7 := Lib.hid (HO5.out.below hW7)
    clear ho6 hb6 hg6 hfz6 hW7 hrp k7 hs7 hr7 hw7 HS
    go_wp2_with fail
    rw [← HW7.out]
    refine K7.out.mono ?_
    rintro e w8 ⟨v8, rfl, ho8, hb8⟩
    have ho8 : OR 5 25 w8 w7.heap.size v8 rows7 := ho8
    obtain ⟨A8, c8, rfl⟩ := or_shape ho8
    have HB8 := Lib.hid (HB7.out.trans (hb8.mono HB7.out.size))
    have HP8 := Lib.hid (HP7.out.below hb8)
    have HO8 := Lib.hid (HO7.out.below hb8)
    obtain ⟨nm, hnm⟩ : ∃ nm, nm = np - 1 := ⟨_, rfl⟩
    have hnm' : (np : Int) - 1 = (nm : Int) := by omega
    have hnmc : nm ≤ cp := by omega
    have hnmn : nm ≤ np := by omega
    have hdl : ps.dropLast = ps.take nm := by rw [List.dropLast_eq_take, hnm, HNP.out]
    have k9 := rows_any _ _ w8 (rp_take HP8.out.rp (n := nm) (by rw [← HNP.out]; exact hnmn))
    have hl9 := HLESS.out
    rw [hdl] at hl9
    unfold GivesRw at k9
    generalize hr9 : rowsT (ps.take nm) = r9 at *
    obtain ⟨rows9, e9⟩ := r9
    simp only [] at hl9
    have he9 : ((e9 : Int) != 0) = true := by rw [bne_iff_ne]; omega
    have K9 := Lib.hid k9
    have HNM := Lib.hid hnm
    clear ho8 hb8 K7 k9 hl9 hr9 hdl hcq hfq hnm
    go_wp2_with fail
    refine K9.out.mono ?_
    rintro e w9 ⟨v9, rfl, ho9, hb9⟩
    have ho9 : OR 5 25 w9 w8.heap.size v9 rows9 := ho9
    obtain ⟨A9, c9, rfl⟩ := or_shape ho9
    have HB9 := Lib.hid (HB8.out.trans (hb9.mono HB8.out.size))
    have HO9 := Lib.hid (HO8.out.below hb9)
    clear ho9 hb9 K9
    go_wp2_with fail
    refine (known_any _).mono ?_
    rintro e w10 ⟨rfl, hb10⟩
    have HB10 := Lib.hid (HB9.out.trans (hb10.mono HB9.out.size))
    have k11 := rising_any _ rs w10 (HO9.out.below hb10).rr
    rw [(sorted_rising rs).2 HSO.out] at k11
    have K11 := Lib.hid k11
    clear hb10 k11
    have hwl := was.toNat_lt
    rcases HS7.out with ⟨h1, rfl⟩ | ⟨h1, h2⟩
    · have hvw : ((v : Int) == (was.toNat : Int)) = true := by
        rw [beq_iff_eq, ← h1, byte_val (by omega)]
      clear h1
      go_wp2_with fail
      refine K11.out.mono ?_
      rintro e w11 ⟨rfl, hb11⟩
      have HB11 := Lib.hid (HB10.out.trans (hb11.mono HB10.out.size))
      clear hb11
      go_wp2
      go_ret
      exact ⟨rfl, HB11.out⟩
    · have hvw : ((v : Int) == (was.toNat : Int)) = false := by
        rw [beq_eq_false_iff_ne]
        intro e
        exact h1 (UInt8.toNat_inj.1 (by rw [byte_val (by omega)]; omega))
      have he7 : ((e7 : Int) == 0) = false := by rw [beq_eq_false_iff_ne]; omega
      clear h1 h2
      go_wp2_with fail
      refine K11.out.mono ?_
      rintro e w11 ⟨rfl, hb11⟩
      have HB11 := Lib.hid (HB10.out.trans (hb11.mono HB10.out.size))
      clear hb11
      go_wp2
      go_ret
      exact ⟨rfl, HB11.out⟩
  · have hpar' : ((n : Int) % 2 == 0) = false := by rw [beq_eq_false_iff_ne]; omega
    have hg0 := manyL_good (n := n) (size := 40)
    have hso := manyL_sorted (n := n) (size := 40) hn
    have hlm := manyL_len n 40
    generalize manyL n 40 = rs at *
    have HG := Lib.hid (show ∀ r ∈ rs, r.1.size ≤ 30 ∧ r.2.length ≤ 150 from fun r hr => ⟨(hg0 r hr).1, by have := (hg0 r hr).2; omega⟩)
    have HSO := Lib.hid hso
    have HLE := Lib.hid (show rs.length ≤ 300 by omega)
    clear hg0 hso hlm
    go_enter Try.func6, Try.ntmps6
    go_wp2_with fail
    refine K0.out.mono ?_
    rintro e w2 ⟨v2, rfl, ho2, hb2⟩
    have HB2 := Lib.hid hb2
    have HO2 := Lib.hid (show OR 5 25 w2 w.heap.size v2 rs from ho2)
    obtain ⟨A2, c2, rfl⟩ := or_shape (show OR 5 25 w2 w.heap.size v2 rs from ho2)
    clear ho2 hb2 K0
    obtain ⟨ps, hps, hpl, hp0⟩ := build_some HSO.out (by have := HLE.out; omega) HG.out
    have hrows := rows_tree hps
    have hless := rows_less hps
    have hspo := fun i (hi : i < ps.length) => rows_spoilt hps hi
    have k3 := build_any _ rs w2 HO2.out.rr
    rw [hps] at k3
    have K3 := Lib.hid k3
    have HLESS := Lib.hid hless
    have HSPO := Lib.hid hspo
    clear k3 hps hrows hless hspo
    go_wp2_with fail
    refine K3.out.mono ?_
    rintro e w3 ⟨p3, rfl, hp3, hb3⟩
    have hp3 : OP 5 23 w3 w2.heap.size p3 ps := hp3
    have HB3 := Lib.hid (HB2.out.trans (hb3.mono HB2.out.size))
    have HO3 := Lib.hid (HO2.out.below hb3)
    have HP3 := Lib.hid hp3
    obtain ⟨Ap, cp, hpv, hcp63, hcpl⟩ := hp3.shape
    obtain ⟨np, hnp⟩ : ∃ np, np = ps.length := ⟨_, rfl⟩
    rw [← hnp] at hpv hcpl
    subst hpv
    obtain ⟨I, hIe, hIn⟩ : ∃ I : Nat, (at_ : Int) % (np : Int) = (I : Int) ∧ I < ps.length := ⟨at_ % np, by rw [Int.natCast_emod], by rw [← hnp]; exact Nat.mod_lt _ (by omega)⟩
    have hInp : I < np := by omega
    have hnp1 : np ≤ 1000 := by omega
    have hnp0' : ((np : Int) == 0) = false := by rw [beq_eq_false_iff_ne]; omega
    obtain ⟨bp, op, up, hAp, hbp, hup, hru⟩ := rp_at hp3.rp hIn
    subst hAp
    obtain ⟨h256, hsp⟩ := HSPO.out I hIn
    obtain ⟨pg, hpg⟩ : ∃ pg, pg = ps[I] := ⟨_, rfl⟩
    rw [← hpg] at hru
    have hsp' : ∀ (k : Nat) (hk : k < pg.length) (v : UInt8), (v = pg[k] ∧ (rowsT (ps.set I (pg.set k v))).2 = 0) ∨ (v ≠ pg[k] ∧ (rowsT (ps.set I (pg.set k v))).2 ≠ 0) := by
      subst hpg
      exact hsp
    have hpgl : pg.length = 256 := by rw [hpg]; exact h256
    have hsrc := hru.src (P := Try.prog) Try.underlying23
    obtain ⟨Au, cu, hupv, _, _, _⟩ := id hru
    rw [hpgl] at hupv hsrc
    subst hupv
    have hkl : k < pg.length := by omega
    obtain ⟨was, hwas⟩ : ∃ was, was = pg[k] := ⟨_, rfl⟩
    have hs := hsp' k hkl (UInt8.ofNat v)
    rw [← hwas] at hs
    have HS := Lib.hid hs
    have HNP := Lib.hid hnp
    have HRU := Lib.hid hru
    have HSRC := Lib.hid hsrc
    have HPGL := Lib.hid hpgl
    have HWAS := Lib.hid hwas
    clear hp3 hb3 K3 hnp hsp hsp' hpg h256 hru hsrc hpgl hs hwas
    have hat0 : (0 : Int) ≤ (at_ : Int) := by omega
    have hI0 : (0 : Int) ≤ (I : Int) := by omega
    have hI1 : (I : Int) < (np : Int) := by omega
    have hnil := World.ownsRow_nil w3 w3.heap.size 5 1
    have hb0 := Below.refl w3.heap.size w3
    go_wp2_with (at_builtin; refine wpList_own rfl (.tmp 47) (.tmp 51) 23 23 rfl w3.heap.size 5 (.int .u8 0) 1 1 Try.underlying23 info5 rfl rfl hnil rfl HSRC.out hb0 (Nat.le_refl _) ?_ ?_ ?_ ?_)
    · unfold maxLen; omega
    · omega
    · exact hb0.size
    intro v4 w4 ho4 hb4 hg4
    obtain ⟨g, c4, rfl, hbg, hgl, hc463, _, hfz⟩ := own_known ho4 (by decide)
    have hrb4 : RB w4 (.slice (some ⟨g, 0, none⟩) 256 c4) pg := by
      have h := RB.own (l := pg) (w := w4) (base := w3.heap.size) (e := 5) (v := .slice (some ⟨g, 0, none⟩) 256 c4) (by rw [HPGL.out]; exact ho4)
      exact h
    have hcell : w4.cell? ⟨g, k, none⟩ = some (.int .u8 (was.toNat : Int)) := by
      have h := hrb4
      rw [← HPGL.out] at h
      obtain ⟨b', o', he, _, h⟩ := rb_cell h hkl
      injection he with he
      injection he with e1 e2 _
      subst e1
      subst e2
      rw [Nat.zero_add, ← HWAS.out] at h
      exact h
    have hfk := hfz k
    have hset := rb_set (w := w4) (b := g) (o := 0) (k := k) hrb4 hkl (UInt8.ofNat v)
    rw [Nat.zero_add, ← bv_nat (n := v) (by omega)] at hset
    have hbW : Below w3.heap.size w3 (w4.setCell ⟨g, k, none⟩ (.int .u8 (v : Int))) := hb4.setCell (p := ⟨g, k, none⟩) hbg _
    have HP5 := Lib.hid (HP3.out.below hbW)
    have HB5 := Lib.hid (HB3.out.trans (hbW.mono HB3.out.size))
    have HO5 := Lib.hid (HO3.out.below hbW)
    have HSET := Lib.hid hset
    have hgl5 : g < (w4.setCell ⟨g, k, none⟩ (.int .u8 (v : Int))).heap.size := by simp; exact hgl
    have hk0 : (0 : Int) ≤ (k : Int) := by omega
    have hk1 : (k : Int) < 256 := by omega
    obtain ⟨w5, hw5⟩ : ∃ w5, w5 = w4.setCell ⟨g, k, none⟩ (.int .u8 (v : Int)) := ⟨_, rfl⟩
    rw [← hw5] at HP5 HB5 HO5 HSET hgl5
    obtain ⟨up, hup', hpo, hpf⟩ := HP5.out
    have hulp : up.length = np := by rw [HNP.out]; have h := congrArg List.length hup'; rw [List.length_map] at h; exact h
    have hone : ∀ x ∈ up, x.2.oneCell' = true := fun x hx => fb_one (hpf x hx)
    have hsrc5 := OP.src (tx := 33) hpo Try.underlying33 hone
    rw [hulp] at hsrc5
    have HSRC5 := Lib.hid hsrc5
    have HUPE := Lib.hid hup'
    have HULP := Lib.hid hulp
    have HPF := Lib.hid hpf
    have HW5 := Lib.hid hw5
    clear hnil hb0 ho4 hb4 hg4 hfz hrb4 hset hbW hsrc5 hup' hulp hpf hpo hone hw5
    have hnil := World.ownsRow_nil w5 w5.heap.size 23 1
    have hb0 := Below.refl w5.heap.size w5
    rw [HW5.out] at hnil hb0
    have HNIL := Lib.hid hnil
    have HB0 := Lib.hid hb0
    have HSRC6 := Lib.hid (show Src Try.prog 1 33 _ np (up.map (·.2)) (w4.setCell ⟨g, k, none⟩ (.int .u8 (v : Int))) by have := HSRC5.out; rw [HW5.out] at this; exact this)
    clear hnil hb0
    go_wp2_with (at_builtin; refine wpList_own rfl (.tmp 64) (.tmp 65) 33 33 rfl (w4.setCell ⟨g, k, none⟩ (.int .u8 (v : Int))).heap.size 23 (.slice none 0 0) 1 24 Try.underlying33 info23 rfl rfl HNIL.out rfl HSRC6.out HB0.out (Nat.le_refl _) ?_ ?_ ?_ ?_)
    · unfold maxLen; omega
    · omega
    · exact HB0.out.size
    intro v6 w6 ho6 hb6 hg6
    have hsz5 : w5.heap.size = w4.heap.size := by rw [HW5.out]; simp
    have hb6 : Below w5.heap.size w5 w6 := by
      first
        | (rw [HW5.out]; exact hb6)
        | (rw [hsz5, HW5.out]; exact hb6)
    rw [← hsz5] at ho6
    obtain ⟨g6, c6, rfl, hbg6, hgl6, hc663, hnc6, hfz6⟩ := own_known ho6 (by omega)
    have hcq := ho6.cells (g := g6) rfl I (up[I]'(by rw [HULP.out]; exact hInp)).2 (by rw [List.getElem?_map, List.getElem?_eq_getElem (by rw [HULP.out]; exact hInp)]; rfl)
    rw [Addr.add_lit, Nat.zero_add] at hcq
    have hfq := hfz6 I
    have hW7 : Below w5.heap.size w5 (w6.setCell ⟨g6, I, none⟩ (.slice (some ⟨g, 0, none⟩) 256 c4)) := hb6.setCell (p := ⟨g6, I, none⟩) hbg6 _
    have hrp := rp_made (I := I) (u := .slice (some ⟨g, 0, none⟩) 256 c4) ho6 HUPE.out HNP.out hgl6 hnc6 (by unfold maxLen; omega) (fun x hx => ((HPF.out x hx).rb).below hW7) (HSET.out.below hW7) hInp
    obtain ⟨w7, hw7⟩ : ∃ w7, w7 = w6.setCell ⟨g6, I, none⟩ (.slice (some ⟨g, 0, none⟩) 256 c4) := ⟨_, rfl⟩
    rw [← hw7] at hW7 hrp
    have k7 := rows_any _ _ w7 hrp
    unfold GivesRw at k7
    have hs7 := HS.out
    generalize hr7 : rowsT (ps.set I (pg.set k (UInt8.ofNat v))) = r7 at *
    obtain ⟨rows7, e7⟩ := r7
    simp only [] at hs7
    have K7 := Lib.hid k7
    have HS7 := Lib.hid hs7
    have HW7 := Lib.hid hw7
    have HP7 := Lib.hid (HP5.out.below hW7)
    have HB7 := Lib.hid (HB5.out.trans (hW7.mono HB5.out.size))
    have HO7 := Lib.hid (HO5.out.below hW7)
    clear ho6 hb6 hg6 hfz6 hW7 hrp k7 hs7 hr7 hw7 HS
    go_wp2_with fail
    rw [← HW7.out]
    refine K7.out.mono ?_
    rintro e w8 ⟨v8, rfl, ho8, hb8⟩
    have ho8 : OR 5 25 w8 w7.heap.size v8 rows7 := ho8
    obtain ⟨A8, c8, rfl⟩ := or_shape ho8
    have HB8 := Lib.hid (HB7.out.trans (hb8.mono HB7.out.size))
    have HP8 := Lib.hid (HP7.out.below hb8)
    have HO8 := Lib.hid (HO7.out.below hb8)
    obtain ⟨nm, hnm⟩ : ∃ nm, nm = np - 1 := ⟨_, rfl⟩
    have hnm' : (np : Int) - 1 = (nm : Int) := by omega
    have hnmc : nm ≤ cp := by omega
    have hnmn : nm ≤ np := by omega
    have hdl : ps.dropLast = ps.take nm := by rw [List.dropLast_eq_take, hnm, HNP.out]
    have k9 := rows_any _ _ w8 (rp_take HP8.out.rp (n := nm) (by rw [← HNP.out]; exact hnmn))
    have hl9 := HLESS.out
    rw [hdl] at hl9
    unfold GivesRw at k9
    generalize hr9 : rowsT (ps.take nm) = r9 at *
    obtain ⟨rows9, e9⟩ := r9
    simp only [] at hl9
    have he9 : ((e9 : Int) != 0) = true := by rw [bne_iff_ne]; omega
    have K9 := Lib.hid k9
    have HNM := Lib.hid hnm
    clear ho8 hb8 K7 k9 hl9 hr9 hdl hcq hfq hnm
    go_wp2_with fail
    refine K9.out.mono ?_
    rintro e w9 ⟨v9, rfl, ho9, hb9⟩
    have ho9 : OR 5 25 w9 w8.heap.size v9 rows9 := ho9
    obtain ⟨A9, c9, rfl⟩ := or_shape ho9
    have HB9 := Lib.hid (HB8.out.trans (hb9.mono HB8.out.size))
    have HO9 := Lib.hid (HO8.out.below hb9)
    clear ho9 hb9 K9
    go_wp2_with fail
    refine (known_any _).mono ?_
    rintro e w10 ⟨rfl, hb10⟩
    have HB10 := Lib.hid (HB9.out.trans (hb10.mono HB9.out.size))
    have k11 := rising_any _ rs w10 (HO9.out.below hb10).rr
    rw [(sorted_rising rs).2 HSO.out] at k11
    have K11 := Lib.hid k11
    clear hb10 k11
    have hwl := was.toNat_lt
    rcases HS7.out with ⟨h1, rfl⟩ | ⟨h1, h2⟩
    · have hvw : ((v : Int) == (was.toNat : Int)) = true := by
        rw [beq_iff_eq, ← h1, byte_val (by omega)]
      clear h1
      go_wp2_with fail
      refine K11.out.mono ?_
      rintro e w11 ⟨rfl, hb11⟩
      have HB11 := Lib.hid (HB10.out.trans (hb11.mono HB10.out.size))
      clear hb11
      go_wp2
      go_ret
      exact ⟨rfl, HB11.out⟩
    · have hvw : ((v : Int) == (was.toNat : Int)) = false := by
        rw [beq_eq_false_iff_ne]
        intro e
        exact h1 (UInt8.toNat_inj.1 (by rw [byte_val (by omega)]; omega))
      have he7 : ((e7 : Int) == 0) = false := by rw [beq_eq_false_iff_ne]; omega
      clear h1 h2
      go_wp2_with fail
      refine K11.out.mono ?_
      rintro e w11 ⟨rfl, hb11⟩
      have HB11 := Lib.hid (HB10.out.trans (hb11.mono HB10.out.size))
      clear hb11
      go_wp2
      go_ret
      exact ⟨rfl, HB11.out⟩
end Go.Proofs.Ytbacdeogggcbfaa
