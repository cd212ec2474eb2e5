/-
  Texts of the proof, put together.
-/
import Derived.Lib.Bytealg
import Derived.Lib.Walk
import Derived.Laws.Externs
import Derived.Test.YtmbkaedhllfoeaaGreatKPC
import Derived.Test.YtmbkaedhllfoeaaGreatKPWr
set_option maxRecDepth 100000
set_option maxHeartbeats 4000000
set_option linter.unusedVariables false
set_option linter.unusedVariables false
namespace Go.Pg
open Go.Rst
def cmpS(a b:ByteArray):Int:=Lib.compareBytes a.data.toList b.data.toList
theorem cb_lt:∀a b:List UInt8,(Lib.compareBytes a b<0↔Op.bytesLess a b=true)∧(Lib.compareBytes a b=0↔a=b)∧ -1≤Lib.compareBytes a b∧Lib.compareBytes a b≤1
 | [],[]=>by simp[Lib.compareBytes,Op.bytesLess]
 | [],_::_=>by simp[Lib.compareBytes,Op.bytesLess]
 |_::_,[]=>by simp[Lib.compareBytes,Op.bytesLess]
 |x::a,y::b=>by
  obtain⟨h1,h2,h3⟩:=cb_lt a b;unfold Lib.compareBytes;by_cases hlt:x<y
  ·have hne:x≠y:=by rintro rfl;exact UInt8.lt_irrefl _ hlt
   rw[if_pos hlt];simp[Op.bytesLess,hlt,hne]
  ·rw[if_neg hlt]
   by_cases hgt:y<x
   ·have hne:x≠y:=by rintro rfl;exact UInt8.lt_irrefl _ hgt
    rw[if_pos hgt];simp[Op.bytesLess,hlt,hne]
   ·rw[if_neg hgt]
    have he:x=y:=UInt8.le_antisymm (UInt8.not_lt.1 hgt) (UInt8.not_lt.1 hlt);subst he;refine⟨by rw[h1];simp[Op.bytesLess],by rw[h2];simp,h3⟩
theorem cmp_lt(a b:ByteArray):cmpS a b<0↔Op.bytesLess a.toList b.toList=true:=by
 unfold cmpS;rw[ba_toList,ba_toList];exact(cb_lt _ _).1
theorem cmp_eq0(a b:ByteArray):cmpS a b=0↔a.toList=b.toList:=by
 unfold cmpS;rw[ba_toList,ba_toList];exact(cb_lt _ _).2.1
end Go.Pg
namespace Go.Proofs.YtmbkaedhllfoeaaGreat
open Go.RowKit Go.Rst Go.Pg
theorem cmpS_any(a b:ByteArray)(w:World):Calls Tryz.prog 111 #[.string a,.string b] w fun e w'=>e= .returned (.int .i64 (cmpS a b))∧w=w':=by
 go_enter Tryz.func111,Tryz.ntmps111;go_wp2;rw[run_callFunc_extern Tryz.func145 (by kernel_rfl) (by kernel_rfl) (by kernel_rfl) (e:=Extern.BytealgCompare.compare) (by kernel_rfl),Lib.run_compareString];simp only[Result.andThen];rw[Oper.upon_value];go_wp2;go_ret;exact⟨rfl,rfl⟩
theorem compare_any(a b:ByteArray)(w:World):Calls Tryz.prog 72 #[.string a,.string b] w fun e w'=>e= .returned (.int .i64 (cmpS a b))∧w=w':=by
 go_enter Tryz.func72,Tryz.ntmps72;go_wp2_with fail
 refine(cmpS_any _ _ _).mono ?_;rintro e w'⟨rfl,rfl⟩;go_wp2;go_ret;exact⟨rfl,rfl⟩
theorem byKey_any(a b:ByteArray)(u v:Value)(hu:u.oneCell'=true)(hv:v.oneCell'=true)(w:World):Calls Tryz.prog 92 #[.agg #[.string a,u],.agg #[.string b,v]] w fun e w'=>e= .returned (.int .i64 (cmpS a b))∧Below w.heap.size w w':=by
 go_enter Tryz.func92,Tryz.ntmps92;have hb:=((Below.refl w.heap.size w).alloc (Nat.le_refl _) (Obj.cells #[.string a,u] 78)).alloc (by simp) (Obj.cells #[.string b,v] 78);have HB:=qH hb;clear hb;go_wp2_with fail
 refine(compare_any _ _ _).mono ?_;rintro e w'⟨rfl,rfl⟩;go_wp2;go_ret;exact⟨rfl,HB.out⟩
theorem halve1_any(a b:ByteArray)(u:Value)(hu:u.oneCell'=true)(w:World):Calls Tryz.prog 129 #[.agg #[.string a,u],.string b] w fun e w'=>e= .returned (.int .i64 (cmpS a b))∧Below w.heap.size w w':=by
 go_enter Tryz.func129,Tryz.ntmps129;have hb:=(Below.refl w.heap.size w).alloc (Nat.le_refl _) (Obj.cells #[.string a,u] 78);have HB:=qH hb;clear hb;go_wp2_with fail
 refine(compare_any _ _ _).mono ?_;rintro e w'⟨rfl,rfl⟩;go_wp2;go_ret;exact⟨rfl,HB.out⟩
end Go.Proofs.YtmbkaedhllfoeaaGreat
