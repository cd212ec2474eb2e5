/-
  The chapter's examples hold: known returns true, and changes nothing that was there. And: words on what is kept while a device is turned.
-/
import Derived.Test.YtpaahbohbnfibaaWrite
import Derived.Test.YtpaahbohbnfibaaLoose
namespace Go.Proofs.Ytpaahbohbnfibaa
open Go.RowKit Go.Rst Go.Dv

/-- Bytes that lie outside a device. -/
def Kp (D : Nat → Prop) (w : World) (u : Value) (l : List UInt8) : Prop := RB w u l ∧ ∀ k, u.ownBlock = some k → ¬ D k ∧ k < w.heap.size
theorem Kp.fr {D E : Nat → Prop} {w w' : World} {u : Value} {l : List UInt8} (h : Kp D w u l) (hf : Fr D w w') (hE : ∀ k, E k → D k ∨ w.heap.size ≤ k) : Kp E w' u l :=
  ⟨RB.fr h.1 hf (fun _ k hk => (h.2 k hk).1), fun k hk => ⟨fun he => by rcases hE k he with h1 | h1; exact (h.2 k hk).1 h1; have := (h.2 k hk).2; omega, Nat.lt_of_lt_of_le (h.2 k hk).2 hf.size⟩⟩
theorem Kp.below {D : Nat → Prop} {w w' : World} {u : Value} {l : List UInt8} (h : Kp D w u l) (hb : Below w.heap.size w w') : Kp D w' u l := h.fr (Fr.of_below hb) (fun _ h => .inl h)
theorem Kp.new {D : Nat → Prop} {w w' : World} {u : Value} {l : List UInt8} (h : RB w' u l) (hn : NewS w u) (h0 : 0 < l.length) (hD : ∀ k, D k → k < w.heap.size) : Kp D w' u l := by
  refine ⟨h, fun k hk => ⟨fun hd => by have := hD k hd; have := hn k hk; omega, ?_⟩⟩
  obtain ⟨A, c, rfl, _, _, h3⟩ := h
  rcases h3 with h3 | ⟨b, off, rfl, hb, _⟩
  · rw [h3] at h0; simp at h0
  · have : b = k := by simpa [Value.ownBlock] using hk
    omega
theorem RB.first {w : World} {u : Value} {l : List UInt8} {x : UInt8} {n : Nat} (h : RB w u l) (hl : l.length = n) (hx : l[0]? = some x) : ∃ b off c, u = .slice (some ⟨b, off, none⟩) n c ∧ w.cell? ⟨b, off, none⟩ = some (bv x) := by
  obtain ⟨A, c, rfl, _, _, h3⟩ := h
  have h0 : 0 < l.length := (List.getElem?_eq_some_iff.1 hx).1
  rcases h3 with h3 | ⟨b, off, rfl, hb, hc⟩
  · rw [h3] at h0; simp at h0
  · refine ⟨b, off, c, by rw [hl], ?_⟩
    have := hc 0 h0
    rw [Nat.add_zero] at this
    rw [this, (List.getElem?_eq_some_iff.1 hx).2]
theorem below_drewN (w : World) (n : Nat) : Below w.heap.size w (w.drewN n) := ⟨rfl, rfl, rfl, Nat.le_refl _, fun _ _ => rfl⟩
theorem fr_below {D : Nat → Prop} {w0 w w' : World} (h : Below w0.heap.size w0 w) (hf : Fr D w w') (hD : ∀ k, D k → w0.heap.size ≤ k) : Below w0.heap.size w0 w' := h.trans (hf.below hD h.size)
def k1 : Sim := Sim.new 2
def k2 : Sim := k1.write 0 [1]
def k3 : Sim := k2.crash []
def k4 : Sim := k3.write 0 [1]
def k5 : Sim := k4.flush
def k6 : Sim := k5.crash []
theorem k3_read : k3.read 0 = List.replicate 64 0 := by decide
theorem k6_read : k6.read 0 = 1 :: List.replicate 63 0 := by decide
theorem k6_n : k6.nw = 2 ∧ k6.nf = 1 := by decide
set_option maxRecDepth 100000 in
set_option maxHeartbeats 1000000 in
theorem known_any (w : World) : Calls Try.prog 10 #[] w fun e w' => e = .returned (.bool true) ∧ Below w.heap.size w w' := by
  have h2 : (0 : Int) ≤ 2 := by decide
  clear h2
  go_enter Try.func10, Try.ntmps10
  go_wp2_with fail
  go_at_call 11
  refine (new_any 2 w (by decide)).mono ?_
  rintro e w1 ⟨v, rfl, ⟨D1, hd1, hD1, hs1⟩, hb1⟩
  obtain ⟨y, rfl, _⟩ := id hd1
  have HD1 := Lib.hid hd1
  have HL1 := Lib.hid hD1
  have HB1 := Lib.hid hb1
  clear hd1 hD1 hb1 hs1
  go_wp2_with fail
  go_at_call 12
  refine (write_any 0 _ [1] (HD1.out.below ((Below.refl _ _).alloc (Nat.le_refl _) _)) (RB.lit w1 5 (0, 0) [1] _ rfl 1 rfl (by decide)) (fun _ j hj hd => by have h1 := HD1.out.lt j hd; have h2 : w1.heap.size = j := (by simpa [Value.ownBlock] using hj); omega) (by decide) (by decide)).mono ?_
  rintro e w2 ⟨rfl, E2, hd, hf, hE⟩
  have HD2 := Lib.hid (show Dev E2 w2 (.pointer (some ⟨y.g, 0, none⟩)) k2 from hd)
  have HL2 := Lib.hid (show ∀ k, E2 k → w.heap.size ≤ k from fun k hk => by rcases hE k hk with h1 | h1; exact HL1.out k h1; have := HB1.out.size; simp at h1; omega)
  have HB2 := Lib.hid (fr_below (HB1.out.alloc HB1.out.size _) hf HL1.out)
  clear hd hf hE
  go_wp2_with fail
  go_at_call 14
  refine (crash_any _ [] HD2.out (KB.nil_ _ _) (by decide)).mono ?_
  rintro e w3 ⟨rfl, hf, hd⟩
  have HD3 := Lib.hid (show Dev E2 w3 (.pointer (some ⟨y.g, 0, none⟩)) k3 from hd)
  have HB3 := Lib.hid (fr_below HB2.out hf HL2.out)
  clear hd hf
  go_wp2_with fail
  go_at_call 15
  refine (read_any 0 HD3.out (by decide) (by decide)).mono ?_
  rintro e w4 ⟨u, rfl, hr, hn, hb⟩
  rw [k3_read] at hr
  have HD4 := Lib.hid (HD3.out.below hb)
  have HB4 := Lib.hid (HB3.out.trans (hb.mono HB3.out.size))
  have HK4 := Lib.hid (Kp.new hr hn (by decide) HD3.out.lt)
  obtain ⟨b1, o1, c1, rfl, _⟩ := RB.first hr (n := 64) (x := 0) (by decide) (by decide)
  clear hr hn hb
  go_wp2_with fail
  go_at_call 12
  refine (write_any 0 _ [1] (HD4.out.below ((Below.refl _ _).alloc (Nat.le_refl _) _)) (RB.lit w4 5 (0, 0) [1] _ rfl 1 rfl (by decide)) (fun _ j hj hd => by have h1 := HD4.out.lt j hd; have h2 : w4.heap.size = j := (by simpa [Value.ownBlock] using hj); omega) (by decide) (by decide)).mono ?_
  rintro e w5 ⟨rfl, E5, hd, hf, hE⟩
  have HD5 := Lib.hid (show Dev E5 w5 (.pointer (some ⟨y.g, 0, none⟩)) k4 from hd)
  have HL5 := Lib.hid (show ∀ k, E5 k → w.heap.size ≤ k from fun k hk => by rcases hE k hk with h1 | h1; exact HL2.out k h1; have := HB4.out.size; simp at h1; omega)
  have HB5 := Lib.hid (fr_below (HB4.out.alloc HB4.out.size _) hf HL2.out)
  have HK5 := Lib.hid ((HK4.out.below ((Below.refl _ _).alloc (Nat.le_refl _) _)).fr hf hE)
  clear hd hf hE
  go_wp2_with fail
  go_at_call 13
  refine (flush_any HD5.out (by decide) (by decide)).mono ?_
  rintro e w6 ⟨rfl, hf, hd⟩
  have HD6 := Lib.hid (show Dev E5 w6 (.pointer (some ⟨y.g, 0, none⟩)) k5 from hd)
  have HB6 := Lib.hid (fr_below HB5.out hf HL5.out)
  have HK6 := Lib.hid (HK5.out.fr hf (fun _ h => .inl h))
  clear hd hf
  go_wp2_with fail
  go_at_call 14
  refine (crash_any _ [] HD6.out (KB.nil_ _ _) (by decide)).mono ?_
  rintro e w7 ⟨rfl, hf, hd⟩
  have HD7 := Lib.hid (show Dev E5 w7 (.pointer (some ⟨y.g, 0, none⟩)) k6 from hd)
  have HB7 := Lib.hid (fr_below HB6.out hf HL5.out)
  have HK7 := Lib.hid (HK6.out.fr hf (fun _ h => .inl h))
  clear hd hf
  go_wp2_with fail
  go_at_call 15
  refine (read_any 0 HD7.out (by decide) (by decide)).mono ?_
  rintro e w8 ⟨u, rfl, hr, hn, hb⟩
  rw [k6_read] at hr
  have HD8 := Lib.hid (HD7.out.below hb)
  have HB8 := Lib.hid (HB7.out.trans (hb.mono HB7.out.size))
  have HK8 := Lib.hid (HK7.out.below hb)
  obtain ⟨b2, o2, c2, rfl, hc2⟩ := RB.first hr (n := 64) (x := 1) (by decide) (by decide)
  obtain ⟨b3, o3, c3, he, hc1⟩ := RB.first HK8.out.1 (n := 64) (x := 0) (by decide) (by decide)
  injection he with he _ _
  injection he with he
  injection he with he1 he2 _
  rw [← he1, ← he2] at hc1
  unfold bv at hc1 hc2
  clear hr hn hb he1 he2
  go_wp2_with fail
  go_at_call 25
  refine (traffic_any HD8.out).mono ?_
  rintro e w9 ⟨rfl, rfl⟩
  rw [k6_n.1, k6_n.2, fb_two, fb_one]
  go_wp2
  have e4 : (FloatKind.f64.format.order 4611686018427387904 4611686018427387904 == some Ordering.eq) = true := by have := fb_order 2 (by decide); rw [fb_two] at this; exact this
  have e5 : (FloatKind.f64.format.order 4607182418800017408 4607182418800017408 == some Ordering.eq) = true := by have := fb_order 1 (by decide); rw [fb_one] at this; exact this
  rw [e4, e5]
  go_ret
  exact ⟨rfl, HB8.out⟩
end Go.Proofs.Ytpaahbohbnfibaa
