/-
  Texts of the proof, put together.
-/
import Derived.Handy
import Derived.Test.YtmbkaedhllfoeaaGreatKPBI
import Derived.Test.YtmbkaedhllfoeaaGreatKPWr
set_option maxRecDepth 100000
set_option maxHeartbeats 4000000
set_option linter.unusedVariables false
namespace Go.Proofs.YtmbkaedhllfoeaaGreat
open Go.RowKit Go.Rst Go.Crc
def longC(c:Chg):Bool:=decide (30<c.1.size)||decide (150<c.2.1.length)
theorem long_any(key:ByteArray)(u:Value)(l:List UInt8)(b:Bool)(w:World)(hu:RB w u l):
  Calls Tryz.prog 65 #[.agg #[.string key,u,.bool b]] w fun e w'=>e= .returned (.bool (longC (key,l,b)))∧Below w.heap.size w w':=by
 obtain⟨A,c,rfl,hc1,hc2,_⟩:=hu;unfold maxLen at hc2;have hb:Below w.heap.size w (w.alloc (.cells #[.string key,.slice A l.length c,.bool b] 76)):=(Below.refl _ _).alloc (Nat.le_refl _) _;by_cases h1:30<key.size
 ·have e:longC (key,l,b)=true:=by unfold longC;simp[h1]
  rw[e];have h1':(30:Int)<(key.size:Int):=by omega
  go_enter Tryz.func65,Tryz.ntmps65;go_wp2;go_ret;exact⟨rfl,hb⟩
 ·have e:longC (key,l,b)=decide (150<l.length):=by unfold longC;simp[h1]
  rw[e];have h1':¬(30:Int)<(key.size:Int):=by omega
  go_enter Tryz.func65,Tryz.ntmps65;go_wp2;go_ret;exact⟨by simp;omega,hb⟩
abbrev longV:Value:= .func (.func 65) #[] #[]
theorem indexLong_any(v:Value)(cs:List Chg)(w:World)(hv:RC w v cs):
  Calls Tryz.prog 107 #[v,longV] w fun e w'=>∃i:Int,e= .returned (.int .i64 i)∧decide (0≤i)=cs.any longC∧ -9223372036854775808≤i∧i≤9223372036854775807∧Below w.heap.size w w':=by
 have HV:=qH hv;obtain⟨A,c,rfl,hc1,hc2,_⟩:=hv;unfold maxLen at hc2;go_enter Tryz.func107,Tryz.ntmps107;go_wp2
 go_loopw [8] (fun i wr=>∃k:Nat,k≤cs.length∧i= .int .i64 k∧(cs.take k).any longC=false∧Below w.heap.size w wr) (fun i _=>cs.length-(intOf i).toNat)
 case atStart=>exact⟨0,Nat.zero_le _,rfl,rfl,Below.refl _ _⟩
 case round=>
  obtain⟨k,hk,rfl,db,ad⟩:=hrel;by_cases hlt:k<cs.length
  ·obtain⟨b,off,u,rfl,e1,e2,e3,e4⟩:=rc_at (rc_below HV.out ad (Nat.le_refl _)) hlt
   have hlc:=long_any cs[k].1 u cs[k].2.1 cs[k].2.2 wr e3;have It:=qH hlc;have wj:=qH db;have fy:=qH ad;have hst:(cs.take (k+1)).any longC=longC cs[k]:=by rw[List.take_succ_eq_append_getElem hlt,List.any_append,db];simp
   have kC:longC cs[k]=true→cs.any longC=true:=fun h=>List.any_eq_true.2 ⟨_,List.getElem_mem hlt,h⟩
   have HST:=qH hst;have qb:=qH kC;obtain⟨Au,cu,rfl,_⟩:=e3;generalize hx:cs[k]=x at *;clear hlc db ad hst kC hx;go_wp2_with fail
   go_at_call 65;refine It.out.mono ?_;rintro e w1⟨rfl,hb1⟩;have an:=qH (fy.out.trans (hb1.mono fy.out.size));clear hb1;have fe:longC (x.1,x.2.1,x.2.2)=longC x:=rfl;rw[fe]
   cases hl:longC x with
   |true=>
    have HT:=qH (qb.out hl);clear hl fe;go_wp2;go_ret;exact⟨_,rfl,by rw[HT.out];simp,by omega,by omega,an.out⟩
   |false=>
    have HT:=qH (HST.out.trans hl);clear hl fe;go_wp2;go_roundw
    case rel=>exact⟨k+1,by omega,by go_num,HT.out,an.out⟩
    case measure=>simp[intOf];omega
  ·have hkk:k=cs.length:=by omega
   subst hkk;have wj:=qH db;have fy:=qH ad;clear db ad;go_wp2;go_ret;exact⟨-1,rfl,by have h:=wj.out;rw[List.take_length] at h;rw[h];rfl,by omega,by omega,fy.out⟩
theorem anyLong_any(v:Value)(cs:List Chg)(w:World)(hv:RC w v cs):
  Calls Tryz.prog 64 #[v,longV] w fun e w'=>e= .returned (.bool (cs.any longC))∧Below w.heap.size w w':=by
 have HI:=qH (indexLong_any v cs w hv);obtain⟨A,c,rfl,_⟩:=hv;go_enter Tryz.func64,Tryz.ntmps64;go_wp2_with fail
 go_at_call 107;refine HI.out.mono ?_;rintro e w1⟨i,rfl,hi,h1,h2,hb⟩;have HB:=qH hb;have J9:=qH hi;clear hb hi;go_wp2;go_ret;exact⟨by rw[←J9.out];rfl,HB.out⟩
end Go.Proofs.YtmbkaedhllfoeaaGreat
