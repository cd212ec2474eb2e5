/-
  Texts of the proof, put together.
-/
import Derived.Test.YtmbkaedhllfoeaaGreatKPC
import Derived.Test.YtmbkaedhllfoeaaGreatKPED
set_option maxRecDepth 100000
set_option maxHeartbeats 4000000
set_option linter.unusedVariables false
namespace Go.Proofs.YtmbkaedhllfoeaaGreat
open Go.RowKit Go.Rst Go.Pg Go.Crc
theorem rows_one{w:World}{base:Nat}{us:List (ByteArray×List UInt8×Value)}(hf:∀x∈us,FB 5 w base x.2.2 x.2.1):∀u∈rowCells us,u.oneCell'=true:=by
 intro x hx;unfold rowCells at hx;obtain⟨y,hy,hx⟩:=List.mem_flatMap.1 hx;simp only[List.mem_cons,List.not_mem_nil,or_false] at hx;rcases hx with rfl|rfl
 ·rfl
 ·exact fb_one (hf y hy)
theorem zero_row(i0:TypeInfo)(hi0:Tryz.prog.info? 78=some i0)(hz0:i0.zero=some (.agg #[.string ⟨#[]⟩,.slice none 0 0])):∀w,(zeroValue 78).run Tryz.prog w= .ok (.agg #[.string ⟨#[]⟩,.slice none 0 0]) w:=by
 intro w;simp[zeroValue,typeInfo,hi0,hz0]
theorem rowCells_drop:∀(us:List (ByteArray×List UInt8×Value)) (j:Nat),(rowCells us).drop (j*2)=rowCells (us.drop j)
 |us,0=>by simp
 | [],j+1=>by simp[rowCells]
 |x::us,j+1=>by
  have:=rowCells_drop us j;simp only[rowCells,List.flatMap_cons,List.drop_succ_cons,List.cons_append,List.nil_append] at this⊢;rw[show(j+1)*2=j*2+1+1 from by omega,List.drop_succ_cons,List.drop_succ_cons,this]
theorem rowCells_take:∀(us:List (ByteArray×List UInt8×Value)) (j:Nat),(rowCells us).take (j*2)=rowCells (us.take j)
 |us,0=>by simp[rowCells]
 | [],j+1=>by simp[rowCells]
 |x::us,j+1=>by
  have:=rowCells_take us j;simp only[rowCells,List.flatMap_cons,List.take_succ_cons,List.cons_append,List.nil_append] at this⊢;rw[show(j+1)*2=j*2+1+1 from by omega,List.take_succ_cons,List.take_succ_cons,this]
theorem OR.mk_{w:World}{base g n cap:Nat}{cur:Array Value}{us:List (ByteArray×List UInt8×Value)}(hb:base≤g)(hg:w.heap[g]? =some (.cells cur 78 (0,0)))(hn:n=us.length)(hnc:n≤cap)(hcm:cap≤maxLen)(hcs:cur.size=cap*2)
  (ht:cur.toList.take (n*2)=rowCells us) (hf:∀x∈us,FB 5 w base x.2.2 x.2.1):OR 5 78 w base (.slice (some ⟨g,0,none⟩) n cap) (us.map (fun x=>(x.1,x.2.1))):=by
 subst hn;exact⟨us,rfl,⟨by rw[rowCells_length],.inr ⟨g,cap,cur,rfl,hb,hg,hnc,hcm,hcs,ht⟩⟩,hf⟩
theorem fb_far{w w':World}{base g:Nat}{cur:Array Value}{v:Value}{l:List UInt8}(hg:w.heap[g]? =some (.cells cur 78 (0,0)))(hk:∀k,k≠g→w'.heap[k]? =w.heap[k]?)(h:FB 5 w base v l):FB 5 w' base v l:=
 h.block_ fun k c fr hh=>(hk k (fun e=>by
  subst e;rw[hg] at hh;injection hh with hh;injection hh with _ h3 _;exact absurd h3 (by decide))).trans hh
end Go.Proofs.YtmbkaedhllfoeaaGreat
