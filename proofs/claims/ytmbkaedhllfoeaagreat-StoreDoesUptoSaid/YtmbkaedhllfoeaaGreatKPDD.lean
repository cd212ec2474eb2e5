/-
  Texts of the proof, put together.
-/
import Derived.Test.YtmbkaedhllfoeaaGreatKPCC
import Derived.Test.YtmbkaedhllfoeaaGreatKPDC
import Derived.Test.YtmbkaedhllfoeaaGreatKPWr
set_option maxRecDepth 100000
set_option maxHeartbeats 4000000
set_option linter.unusedVariables false
namespace Go.Proofs.YtmbkaedhllfoeaaGreat
open Go.RowKit Go.Rst Go.Dv Go.Str Go.Pg Go.Crc
def fitB(n:Nat)(rs:List Rw):Bool:=match buildL rs with
 |some ps=>decide (ps.length≤aN n)
 |none=>false
theorem sfit_any{D:Nat→Prop}{w:World}{v:Value}{s:Sim}(h:Dev D w v s)(lv:Value)(rs:List Rw)(hr:RR w lv rs):
  Calls Tryz.prog 52 #[dv v,lv] w fun e w'=>e= .returned (.bool (fitB s.firm.length rs))∧Below w.heap.size w w':=by
 have HN:=h.ok.n;have H:=qH h;have bM:=qH hr;obtain⟨y,rfl,_⟩:=h;obtain⟨n,hn⟩:∃n,n=s.firm.length:=⟨_,rfl⟩
 have hlen:=len_any H.out;rw[←hn] at hlen HN⊢;have HL:=qH hlen;have al:=layout_any (n:Int) (by omega) (by omega) w;rw[layJ_nat,layA_nat] at al;have HY:=qH al;have AV:=qH (build_any lv rs w hr);clear hlen al hn hr
 cases hb:buildL rs with
 |none=>
  have HB:=qH hb;have e:fitB n rs=false:=by unfold fitB;rw[hb]
  rw[e];clear hb e;go_enter Tryz.func52,Tryz.ntmps52;go_wp2_with (first|(go_at_call 38;refine HL.out.mono ?_;rintro e w1 ⟨rfl,rfl⟩)|(go_at_call 29;refine HY.out.mono ?_;rintro e w1 ⟨rfl,rfl⟩)|(go_at_call 74;refine AV.out.mono ?_;rintro e w1 ⟨p,rfl,hop,hb1⟩;rw[HB.out] at hop⊢;have an:=qH hb1;clear hop hb1;simp only[Option.isSome]))
  go_ret;exact⟨rfl,an.out⟩
 |some ps=>
  have HB:=qH hb;have e:fitB n rs=decide (ps.length≤aN n):=by unfold fitB;rw[hb]
  rw[e];clear hb e;go_enter Tryz.func52,Tryz.ntmps52;go_wp2_with (first|(go_at_call 38;refine HL.out.mono ?_;rintro e w1 ⟨rfl,rfl⟩)|(go_at_call 29;refine HY.out.mono ?_;rintro e w1 ⟨rfl,rfl⟩)|(go_at_call 74;refine AV.out.mono ?_;rintro e w1 ⟨p,rfl,hop,hb1⟩;rw[HB.out] at hop⊢;have an:=qH hb1;obtain⟨A,c,rfl,hc1,hc2⟩:=hop.shape;clear hop hb1;simp only[Option.isSome,Option.getD_some] at *))
  go_ret;exact⟨rfl,an.out⟩
end Go.Proofs.YtmbkaedhllfoeaaGreat
