/-
  Texts of the proof, put together.
-/
import Derived.Maps.AppendAt
import Derived.Test.YtmbkaedhllfoeaaGreatKPBD
import Derived.Test.YtmbkaedhllfoeaaGreatKPDA
set_option maxRecDepth 100000
set_option maxHeartbeats 4000000
set_option linter.unusedVariables false
namespace Go.Pg
def abovP(from_:Nat)(cs:List (List Rw)):List Rw:=(cs.zipIdx.filter fun x=> !x.1.isEmpty).map fun x=>(headKey x.1,Go.Rst.numL (from_+x.2))
theorem abovP_snoc(from_:Nat)(cs:List (List Rw))(c:List Rw):abovP from_ (cs++ [c])=abovP from_ cs++(if c= [] then [] else [(headKey c,Go.Rst.numL (from_+cs.length))]):=by
 unfold abovP;rw[List.zipIdx_append,List.filter_append,List.map_append];cases c <;>simp
theorem abovP_full{from_:Nat}{cs:List (List Rw)}(h:∀c∈cs,c≠ []):abovP from_ cs=aboveF from_ cs:=by
 unfold abovP aboveF;rw[List.filter_eq_self.2];intro x hx;have:=h x.1 (by
  obtain⟨i,j⟩:=x;exact List.fst_mem_of_mem_zipIdx hx)
 cases hc:x.1 with
 |nil=>exact(this hc).elim
 |cons a b=>rfl
theorem abovP_len(from_:Nat)(cs:List (List Rw)):(abovP from_ cs).length≤cs.length:=by
 unfold abovP;rw[List.length_map];exact Nat.le_trans (List.length_filter_le _ _) (by simp)
theorem abovP_one(from_:Nat)(l:List Rw):(abovP from_ (groupsL l)).length≤1↔(groupsL l).length=1:=by
 have h1:=groups_pos l;by_cases hl:l= []
 ·subst hl
  rw[groups_nil];exact⟨fun _=>rfl,fun _=>abovP_len _ _⟩
 ·rw[abovP_full (groups_ne hl),above_len]
  omega
theorem abovP_more{from_:Nat}{l:List Rw}(h:¬(groupsL l).length=1):abovP from_ (groupsL l)=aboveF from_ (groupsL l):=
 abovP_full (groups_ne (fun e=>h (by subst e;rfl)))
end Go.Pg
namespace Go.Proofs.YtmbkaedhllfoeaaGreat
open Go.RowKit Go.Rst Go.Pg Go.Crc Go.Shelf
def SR(lv:Value)(rest:List Rw)(B:Nat)(pv:Value)(X:World):Prop:=RR X lv rest∧Boxed X B 26 pv
theorem SR.below{lv:Value}{rest:List Rw}{B:Nat}{pv:Value}{X Y:World}(h:SR lv rest B pv X)(hb:Below X.heap.size X Y):SR lv rest B pv Y:=⟨rr_below h.1 hb (Nat.le_refl _),(KX.below (p:=fun _ _=>True) hb).boxed trivial h.2⟩
structure St (w0:World) (B Bl Ba lev base:Nat) (lv:Value) (rest:List Rw) (all:List (List UInt8)) (ab:List Rw) (pv av:Value) (W:World):Prop where
 bp:Boxed W B 26 pv
 bl:Boxed W Bl 3 (.int .i64 lev)
 ba:Boxed W Ba 40 av
 op:OP 5 46 W w0.heap.size pv all
 oa:OR 5 78 W base av ab
 ei:RR w0 lv rest∨(OR 5 78 W w0.heap.size lv rest∧∀g,lv.ownBlock=some g→g<base)
 be:Below w0.heap.size w0 W
 hB:w0.heap.size≤B
 hA:base≤Ba
 hb:w0.heap.size≤base
 hs:base≤W.heap.size
section
variable {w0:World} {B Bl Ba lev base:Nat} {lv:Value} {rest:List Rw} {all:List (List UInt8)} {ab:List Rw} {pv av:Value} {W W':World}
theorem St.keep(h:St w0 B Bl Ba lev base lv rest all ab pv av W)(hk:KX (fun _ _=>True) W W')(hb:Below w0.heap.size w0 W'):St w0 B Bl Ba lev base lv rest all ab pv av W' where
 bp:=hk.boxed trivial h.bp
 bl:=hk.boxed trivial h.bl
 ba:=hk.boxed trivial h.ba
 op:=hk.op (fun _=>trivial) (fun _=>trivial) h.op
 oa:=hk.or_ (fun _=>trivial) (fun _ _=>trivial) h.oa
 ei:=h.ei.imp id fun h=>⟨hk.or_ (fun _=>trivial) (fun _ _=>trivial) h.1,h.2⟩
 be:=hb
 hB:=h.hB
 hA:=h.hA
 hb:=h.hb
 hs:=Nat.le_trans h.hs hk.size
theorem St.below(h:St w0 B Bl Ba lev base lv rest all ab pv av W)(hb:Below W.heap.size W W'):St w0 B Bl Ba lev base lv rest all ab pv av W':=h.keep (KX.below hb) (h.be.trans (hb.mono h.be.size))
theorem St.rr(h:St w0 B Bl Ba lev base lv rest all ab pv av W):RR W lv rest:=by
 rcases h.ei with h1|⟨h1,_⟩
 ·exact rr_below h1 h.be (Nat.le_refl _)
 ·exact h1.rr
theorem St.pushA(h:St w0 B Bl Ba lev base lv rest all ab pv av W){us:List (ByteArray×List UInt8×Value)}(ah:us.map (fun x=>(x.1,x.2.1))=ab)(ho:W.ownsRow base 78 2 av us.length (rowCells us))(hf:∀x∈us,FB 5 W base x.2.2 x.2.1)
  {tmp:Obj} {w1:World} {v' u:Value} {k:ByteArray} {l:List UInt8} (hu:FB 5 W base u l) (ho':w1.ownsRow base 78 2 v' (us.length+1) (rowCells us++ [.string k,u])) (hg:(W.alloc tmp).grownBy w1 av.ownBlock):
  Boxed w1 Ba 40 av∧SR lv rest B pv w1∧St w0 B Bl Ba lev base lv rest all (ab++ [(k,l)]) pv v' (w1.setCell ⟨Ba,0,none⟩ v')∧KeepsOthers W (w1.setCell ⟨Ba,0,none⟩ v')∧Below w0.heap.size W (w1.setCell ⟨Ba,0,none⟩ v'):=by
 obtain⟨hb1,hb2,hr,hko,ad⟩:=h.ba.appended (by decide) ho h.hs h.hA ho' hg;have dC:=appended_kx h.ba (by decide) ho h.hs h.hA ho' hg;have h5:∀g:Nat,((5:TypeId)≠78∧(5:TypeId)≠40)∨g<base:=fun _=> .inl (by decide)
 have hk1:=appended_kx1 ho hg;have Ji:∀g:Nat,((5:TypeId)≠78)∨g<base:=fun _=> .inl (by decide)
 refine⟨hb1,⟨?_,hk1.boxed (.inl (by decide)) h.bp⟩,⟨dC.boxed (.inl (by decide)) h.bp,dC.boxed (.inl (by decide)) h.bl,hb2,dC.op h5 (fun _=> .inl (by decide)) h.op,⟨us++ [(k,l,u)],by rw[List.map_append,ah];rfl,?_,fun x hx=>?_⟩,
  h.ei.imp id fun h6=>⟨dC.or_ h5 (fun g hg=> .inr (h6.2 g hg)) h6.1,h6.2⟩,h.be.trans (ad.mono h.hb),h.hB,h.hA,h.hb,Nat.le_trans h.hs ad.size⟩,hko,ad.mono h.hb⟩
 ·rcases h.ei with h6|h6
  ·have aj:Below base W w1:=((Below.refl base W).alloc h.hs tmp).grown hg (Nat.le_trans h.hs (by simp)) (fun k hk=>by
    rcases ho.2 with ⟨rfl,_⟩|⟨g,cap,cur,rfl,hbg,_⟩
    ·simp[Value.ownBlock] at hk
    ·obtain rfl:g=k:=by simpa [Value.ownBlock] using hk
     exact hbg)
   exact rr_below h6 (h.be.trans (aj.mono h.hb)) (Nat.le_refl _)
  ·exact(hk1.or_ Ji (fun g hg=> .inr (h6.2 g hg)) h6.1).rr
 ·unfold rowCells at hr⊢
  rw[List.length_append,List.flatMap_append];exact hr
 ·rcases List.mem_append.1 hx with hx|hx
  ·exact dC.fb h5 (hf x hx)
  ·simp at hx
   subst hx;exact dC.fb h5 hu
theorem St.pushP(h:St w0 B Bl Ba lev base lv rest all ab pv av W){us:List (List UInt8×Value)}(ah:us.map (·.1)=all)(ho:W.ownsRow w0.heap.size 46 1 pv us.length (us.map (·.2)))(hf:∀x∈us,FB 5 W w0.heap.size x.2 x.1)
  {tmp:Obj} {w1:World} {v' u:Value} {l:List UInt8} (hu:FB 5 W w0.heap.size u l) (ho':w1.ownsRow w0.heap.size 46 1 v' (us.length+1) (us.map (·.2)++ [u])) (hg:(W.alloc tmp).grownBy w1 pv.ownBlock):
  Boxed w1 B 26 pv∧St w0 B Bl Ba lev base lv rest (all++ [l]) ab v' av (w1.setCell ⟨B,0,none⟩ v')∧KeepsOthers W (w1.setCell ⟨B,0,none⟩ v')∧Below w0.heap.size W (w1.setCell ⟨B,0,none⟩ v'):=by
 obtain⟨hb1,hb2,hr,hko,ad⟩:=h.bp.appended (by decide) ho h.be.size h.hB ho' hg;have dC:=appended_kx h.bp (by decide) ho h.be.size h.hB ho' hg;have h5:∀g:Nat,((5:TypeId)≠46∧(5:TypeId)≠26)∨g<w0.heap.size:=fun _=> .inl (by decide)
 refine⟨hb1,⟨hb2,dC.boxed (.inl (by decide)) h.bl,dC.boxed (.inl (by decide)) h.ba,⟨us++ [(l,u)],by rw[List.map_append,ah];rfl,?_,fun x hx=>?_⟩,dC.or_ h5 (fun _ _=> .inl (by decide)) h.oa,
  h.ei.imp id fun h6=>⟨dC.or_ h5 (fun _ _=> .inl (by decide)) h6.1,h6.2⟩,h.be.trans ad,h.hB,h.hA,h.hb,Nat.le_trans h.hs ad.size⟩,hko,ad⟩
 ·rw[List.map_append,List.length_append]
  exact hr
 ·rcases List.mem_append.1 hx with hx|hx
  ·exact dC.fb h5 (hf x hx)
  ·simp at hx
   subst hx;exact dC.fb h5 hu
end
end Go.Proofs.YtmbkaedhllfoeaaGreat
