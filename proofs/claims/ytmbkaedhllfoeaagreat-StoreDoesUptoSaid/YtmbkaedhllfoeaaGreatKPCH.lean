/-
  Texts of the proof, put together.
-/
import Derived.Test.YtmbkaedhllfoeaaGreatKPBI
import Derived.Test.YtmbkaedhllfoeaaGreatKPCG
import Derived.Test.YtmbkaedhllfoeaaGreatKPWr
set_option maxRecDepth 100000
set_option maxHeartbeats 4000000
set_option linter.unusedVariables false
namespace Go.Proofs.YtmbkaedhllfoeaaGreat
open Go.RowKit Go.Rst Go.Crc Go.Shelf Go.Dv Go.Str
theorem PN.ps{w:World}{base:Nat}{v:Value}{ps:List (List UInt8)}(h:PN w base v ps)(hne:ps≠ []):∃qs:List (Value×List UInt8),qs.map (·.2)=ps∧PS w v qs:=by
 obtain⟨A,c,rfl,h1,h2,h3⟩:=h;rcases h3 with h3|⟨b,off,rfl,_,hb,hc⟩
 ·exact absurd h3 hne
 have hc':∀j,∃u,∀h:j<ps.length,w.cell? ⟨b,off+j,none⟩=some u∧RB w u ps[j]:=fun j=>by
  by_cases hj:j<ps.length
  ·obtain⟨u,a1,a2,_⟩:=hc j hj;exact⟨u,fun _=>⟨a1,a2⟩⟩
  ·exact⟨undef,fun h=>absurd h hj⟩
 refine⟨ps.zipIdx.map fun x=>((hc' x.2).choose,x.1),by rw[List.map_map];show ps.zipIdx.map Prod.fst=ps;exact List.zipIdx_map_fst 0 ps,b,off,c,by simp,by simpa using h1,h2,hb,fun j hj=>?_⟩;have hj':j<ps.length:=by simpa using hj
 have:=(hc' j).choose_spec hj'
 simpa using this
theorem cat_flatten{qs:List (Value×List UInt8)}{ps:List (List UInt8)}(h:qs.map (·.2)=ps):cat qs=ps.flatten:=by
 subst h;unfold cat;rw[List.flatten_eq_flatMap,List.flatMap_map];rfl
theorem pieces_pn{w':World}{b c:Nat}{L:Nat}{bl:List UInt8}{ps:List (List UInt8)}{base:Nat}{sv:Value}{us:List (Value×List UInt8)}(ah:us.map (·.2)=ps)(ho:w'.ownsRow base 46 1 sv us.length (us.map (·.1)))
  (hx:∀x∈us,(∀X,RB X (.slice (some ⟨b,0,none⟩) L c) bl→RB X x.1 x.2)∧x.1.ownBlock=(Value.slice (some ⟨b,0,none⟩) L c).ownBlock) (hr:RB w' (.slice (some ⟨b,0,none⟩) L c) bl) (hb:base≤b) (hb2:b<w'.heap.size):PN w' base sv ps:=by
 subst ah;rcases ho.2 with ⟨rfl,h0⟩|⟨g,cap,cur,rfl,hbg,hg,hnc,hcm,hcs,ht⟩
 ·have:us= []:=List.eq_nil_of_length_eq_zero h0
  subst this;exact pn_nil w' base
 ·refine⟨some ⟨g,0,none⟩,cap,by rw[List.length_map],by rw[List.length_map];exact hnc,hcm,.inr ⟨g,0,rfl,hbg,(Array.getElem?_eq_some_iff.1 hg).1,fun j hj=>?_⟩⟩
  rw[List.length_map] at hj;have hc:=ho.cells (g:=g) rfl j us[j].1 (by simp[hj]);rw[Addr.add_lit] at hc;have hu:=hx us[j] (List.getElem_mem hj);refine⟨us[j].1,hc,by simpa using hu.1 _ hr,fun _ q hq=>?_⟩;rw[hu.2] at hq;simp[Value.ownBlock] at hq;subst hq;exact⟨hb,hb2⟩
theorem coll64_any(b off c L B:Nat)(bl:List UInt8)(w:World)(hL:L=bl.length)(hD:DC64 (.slice (some ⟨b,off,none⟩) L c) bl B w)(hl:L≤1000000):
  Calls Tryz.prog 76 #[.func (.func 117) #[] #[.pointer (some ⟨B,0,none⟩),.pointer (some ⟨B+1,0,none⟩)]] w (GivesCk w (.slice (some ⟨b,off,none⟩) L c) bl (chunkL64 bl)):=by
 have HA:=qH (appseq_64 b off c L B bl w hL hD hl);clear hD;go_enter Tryz.func76,Tryz.ntmps76;go_wp2_with fail
 go_at_call 116;refine HA.out.mono ?_;rintro e w1⟨sv,us,rfl,h1,h2,h3,h4⟩;obtain⟨As,cs,rfl,_⟩:=own_shape h2;have H1:=qH h1;have H2:=qH h2;have H3:=qH h3;have H4:=qH h4;clear h1 h2 h3 h4;go_wp2;go_ret;exact⟨_,us,rfl,H1.out,H2.out,H3.out,H4.out⟩
theorem chunk64_any(bv:Value)(w:World)(h1:bv.oneCell'=true):
  Calls Tryz.prog 77 #[bv,.int .i64 64] w fun e w'=>e= .returned (.func (.func 117) #[] #[.pointer (some ⟨w.heap.size,0,none⟩),.pointer (some ⟨w.heap.size+1,0,none⟩)])∧w'=(w.alloc (.cells #[bv] 46)).alloc (.cells #[.int .i64 64] 3):=
 (callsIn_wide (n:=1)).1 (chunk_in64 1 bv w h1)
theorem dc64_new{w:World}{b c L:Nat}{bl:List UInt8}(h:RB w (.slice (some ⟨b,0,none⟩) L c) bl):DC64 (.slice (some ⟨b,0,none⟩) L c) bl w.heap.size ((w.alloc (.cells #[.slice (some ⟨b,0,none⟩) L c] 46)).alloc (.cells #[.int .i64 64] 3)):=by
 have x1:=(Boxed.new w 46 (.slice (some ⟨b,0,none⟩) L c)).alloc (.cells #[.int .i64 64] 3);have x2:=Boxed.new (w.alloc (.cells #[.slice (some ⟨b,0,none⟩) L c] 46)) 3 (.int .i64 64);rw[World.size_alloc] at x2;exact⟨(h.alloc _).alloc _,x1,x2⟩
theorem coll256_any(b off c L B:Nat)(bl:List UInt8)(w:World)(hL:L=bl.length)(hD:DC256 (.slice (some ⟨b,off,none⟩) L c) bl B w)(hl:L≤1000000):
  Calls Tryz.prog 76 #[.func (.func 117) #[] #[.pointer (some ⟨B,0,none⟩),.pointer (some ⟨B+1,0,none⟩)]] w (GivesCk w (.slice (some ⟨b,off,none⟩) L c) bl (chunkL256 bl)):=by
 have HA:=qH (appseq_256 b off c L B bl w hL hD hl);clear hD;go_enter Tryz.func76,Tryz.ntmps76;go_wp2_with fail
 go_at_call 116;refine HA.out.mono ?_;rintro e w1⟨sv,us,rfl,h1,h2,h3,h4⟩;obtain⟨As,cs,rfl,_⟩:=own_shape h2;have H1:=qH h1;have H2:=qH h2;have H3:=qH h3;have H4:=qH h4;clear h1 h2 h3 h4;go_wp2;go_ret;exact⟨_,us,rfl,H1.out,H2.out,H3.out,H4.out⟩
theorem chunk256_any(bv:Value)(w:World)(h1:bv.oneCell'=true):
  Calls Tryz.prog 77 #[bv,.int .i64 256] w fun e w'=>e= .returned (.func (.func 117) #[] #[.pointer (some ⟨w.heap.size,0,none⟩),.pointer (some ⟨w.heap.size+1,0,none⟩)])∧w'=(w.alloc (.cells #[bv] 46)).alloc (.cells #[.int .i64 256] 3):=
 (callsIn_wide (n:=1)).1 (chunk_in256 1 bv w h1)
theorem dc256_new{w:World}{b c L:Nat}{bl:List UInt8}(h:RB w (.slice (some ⟨b,0,none⟩) L c) bl):DC256 (.slice (some ⟨b,0,none⟩) L c) bl w.heap.size ((w.alloc (.cells #[.slice (some ⟨b,0,none⟩) L c] 46)).alloc (.cells #[.int .i64 256] 3)):=by
 have x1:=(Boxed.new w 46 (.slice (some ⟨b,0,none⟩) L c)).alloc (.cells #[.int .i64 256] 3);have x2:=Boxed.new (w.alloc (.cells #[.slice (some ⟨b,0,none⟩) L c] 46)) 3 (.int .i64 256);rw[World.size_alloc] at x2;exact⟨(h.alloc _).alloc _,x1,x2⟩
end Go.Proofs.YtmbkaedhllfoeaaGreat
