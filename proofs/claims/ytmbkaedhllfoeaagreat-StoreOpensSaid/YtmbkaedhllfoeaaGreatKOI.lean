/-
  Texts of the proof, put together.
-/
import Derived.Deep.QuietTactic
import Derived.BigQuiet
import Derived.Test.YtmbkaedhllfoeaaGreatKOH
set_option maxRecDepth 100000
set_option maxHeartbeats 4000000
set_option linter.unusedVariables false
namespace Go.Pg
open Go.Rst Go.Crc
end Go.Pg
namespace Go.Proofs.YtmbkaedhllfoeaaGreat
open Go.RowKit Go.Rst Go.Pg Go.Crc Go.Shelf
attribute [local go_sem] Oper.semAt_some
theorem yield_at{F:Fence}{n m:Nat}{P:Program}{o:Oper}{a:Act}{K:Act→World→Prop}{Q:Exit→Act→World→Prop}{l:Nat}{args:Array Value}{W:World}{R:Ending→World→Prop}(h:YieldAt F m P l args W R)
  (hk:∀fn tmps assign body,RoundIn F m P l fn tmps assign body W R→Oper.uponIn F n P o a K Q (.ok (.round l fn tmps assign body) W)):Oper.uponIn F n P o a K Q ((Instr.yield l args).run P W):=by
 obtain⟨fn,tmps,assign,body,hy,hr⟩:=h;rw[hy];exact hk _ _ _ _ hr
def PtrTo(W:World)(v:Value):Option Rw→Prop
 |none=>v= .pointer none
 |some r=>∃b off u,v= .pointer (some ⟨b,off,none⟩)∧b<W.heap.size∧W.cell? ⟨b,off,none⟩=some (.string r.1)∧W.cell? ⟨b,off+1,none⟩=some u∧RB W u r.2
def DK(w:World)(fv tv:Value)(X:World):Prop:=Below w.heap.size w X∧Boxed X (w.heap.size+1) 40 fv∧Boxed X (w.heap.size+1+1) 40 tv
end Go.Proofs.YtmbkaedhllfoeaaGreat
