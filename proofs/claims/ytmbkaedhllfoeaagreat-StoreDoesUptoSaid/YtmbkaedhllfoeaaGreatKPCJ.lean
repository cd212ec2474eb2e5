/-
  Texts of the proof, put together.
-/
import Derived.Deep.RegionHeld3
import Derived.Deep.QuietTactic
import Derived.BigQuiet
import Derived.Test.YtmbkaedhllfoeaaGreatKPBF
set_option maxRecDepth 100000
set_option maxHeartbeats 4000000
set_option linter.unusedVariables false
namespace Go.Proofs.YtmbkaedhllfoeaaGreat
open Go.RowKit Go.Rst Go.Crc
theorem right_short(v:Value)(l:List UInt8)(w:World)(hv:RB w v l)(hl:l.length<4):
  Calls Tryz.prog 121 #[v] w fun e w'=>e= .returned (.bool (rightL l))∧Below w.heap.size w w':=by
 have hr:rightL l=false:=by unfold rightL;simp;intro h;omega
 rw[hr];obtain⟨A,c,rfl,_⟩:=hv;have hd:decide ((4:Int)≤(l.length:Int))=false:=by simp;omega
 go_enter Tryz.func121,Tryz.ntmps121;go_wp2
 go_quiet (fail)
 go_wp2;go_ret;refine⟨rfl,?_⟩;exact bel_drewN w nq
structure RS (w:World) (v u:Value) (l m:List UInt8) (w':World):Prop where
 r1:RB w' v l
 r2:RB w' u m
 bel:Below w.heap.size w w'
theorem RS.step{w w1 w2:World}{v u:Value}{l m:List UInt8}(h:RS w v u l m w1)(hb:Below w1.heap.size w1 w2):RS w v u l m w2:=
 ⟨h.r1.below hb,h.r2.below hb,h.bel.trans (hb.mono h.bel.size)⟩
theorem RS.drew{w w1:World}{v u:Value}{l m:List UInt8}(h:RS w v u l m w1):RS w v u l m w1.drew:=⟨h.r1.drew,h.r2.drew,h.bel.drew⟩
theorem right_long(v:Value)(l:List UInt8)(w:World)(hv:RB w v l)(hl:4≤l.length):
  Calls Tryz.prog 121 #[v] w fun e w'=>e= .returned (.bool (rightL l))∧Below w.heap.size w w':=by
 have hv0:=hv;obtain⟨A,c,rfl,h1,h2,_⟩:=hv;obtain⟨b,off,rfl,hb,_⟩:=rb_cell hv0 (k:=0) (by omega);have hA:=hv0.head (n:=l.length-4) (by omega);have hB:=hv0.cut (q:=l.length-4) (n:=4) (by omega);have hr:rightL l=(tailL (csum (l.take (l.length-4)))==(l.drop (l.length-4)).take 4):=by
  unfold rightL;rw[List.take_of_length_le (l:=l.drop (l.length-4)) (by rw[List.length_drop];omega)];simp[hl]
 obtain⟨n,hn⟩:∃n,n=l.length-4:=⟨_,rfl⟩
 obtain⟨m,hm⟩:∃m,m=l.length:=⟨_,rfl⟩
 rw[←hn] at hA hB hr;rw[←hm] at h1 hl hn⊢;obtain rfl:m=n+4:=by omega
 rw[hr];generalize l.take n=la at *;generalize (l.drop n).take 4=lb at *;have hs:=csum_lt la;have HS:RS w _ _ la lb w:=⟨hA,hB,Below.refl _ _⟩
 have h3:(0:Int)≤(n:Int):=by omega
 have h4:(n:Int)≤(n:Int)+4:=by omega
 have h6:(n:Int)≤(c:Int):=by omega
 have h5:(n:Int)+4≤(c:Int):=by omega
 clear hm hn hA hB hv0 hr;simp only[maxLen] at h2;go_enter Tryz.func121,Tryz.ntmps121;go_wp2
 go_region_held3 (RS w (.slice (some ⟨b,off,none⟩) n c) (.slice (some ⟨b,off+n,none⟩) 4 (c-n)) la lb)
  (first
   |assumption
   |exact HS.drew
   |exact RS.step (by assumption) aJ
   |exact RS.step (by assumption) ag)
  (first
   |(go_at_call 150;refine(sum_any _ la _ (RS.r1 (by assumption))).mono ?_;rintro e w3 ⟨rfl,aJ⟩)
   |(go_at_call 149;refine(tail_any _ hs _).mono ?_;rintro e w4 ⟨v2,rfl,hown2,ag⟩)
   |(go_at_call 87;refine(equal_any _ _ _ lb _ (RB.own hown2) (RS.r2 (by assumption))).mono ?_;rintro e w5 ⟨rfl,rfl⟩))
 go_wp2;go_ret;exact⟨rfl,RS.bel (by assumption)⟩
theorem right_any(v:Value)(l:List UInt8)(w:World)(hv:RB w v l):
  Calls Tryz.prog 121 #[v] w fun e w'=>e= .returned (.bool (rightL l))∧Below w.heap.size w w':=by
 by_cases h:l.length<4
 ·exact right_short v l w hv h
 ·exact right_long v l w hv (by omega)
end Go.Proofs.YtmbkaedhllfoeaaGreat
