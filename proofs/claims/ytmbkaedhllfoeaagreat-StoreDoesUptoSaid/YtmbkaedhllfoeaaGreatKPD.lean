/-
  Texts of the proof, put together.
-/
import Derived.Deep.QuietTactic
import Derived.BigQuiet
import Derived.Test.YtmbkaedhllfoeaaGreatKPC
import Derived.Test.YtmbkaedhllfoeaaGreatKPWr
set_option maxRecDepth 100000
set_option maxHeartbeats 4000000
set_option linter.unusedVariables false
namespace Go.Proofs.YtmbkaedhllfoeaaGreat
open Go.RowKit Go.Rst
theorem sameRows_any(va vb:Value)(rs:List (ByteArray×List UInt8))(w:World)(ha:RR w va rs)(hb:RR w vb rs):Calls Tryz.prog 34 #[va,vb] w fun e w'=>e= .returned (.bool true)∧∃m,w'=w.drewN m:=by
 have HA:=qH ha;have HB:=qH hb;obtain⟨A1,c1,rfl,Bd,hc1,_⟩:=ha;obtain⟨A2,c2,rfl,hl2,hc2,_⟩:=hb;unfold maxLen at hc1 hc2;have oY:((rs.length:Int) !=(rs.length:Int))=false:=by simp
 go_enter Tryz.func34,Tryz.ntmps34;go_wp2
 go_loopw [5] (fun i wr=>∃k:Nat,k≤rs.length∧i= .int .i64 k∧∃m,wr=w.drewN m) (fun i _=>rs.length-(intOf i).toNat)
 case atStart=>exact⟨0,Nat.zero_le _,rfl,0,rfl⟩
 case round=>
  obtain⟨k,hk,rfl,m,rfl⟩:=hrel;by_cases hlt:k<rs.length
  ·obtain⟨b1,o1,u1,rfl,hx1,hy1,hr1⟩:=rr_at HA.out hlt
   obtain⟨b2,o2,u2,rfl,hx2,hy2,hr2⟩:=rr_at HB.out hlt;have hs1:=fun(W:World) (hW:W.heap=w.heap)=>(hr1.keep (w':=W) (by rw[hW];exact Nat.le_refl _) (fun b o _=>by simp[World.cell?,hW])).str (P:=Tryz.prog) (src:=46) (dst:=9) Tryz.underlying46 Tryz.underlying5 Tryz.underlying9
   have hs2:=fun(W:World) (hW:W.heap=w.heap)=>(hr2.keep (w':=W) (by rw[hW];exact Nat.le_refl _) (fun b o _=>by simp[World.cell?,hW])).str (P:=Tryz.prog) (src:=46) (dst:=9) Tryz.underlying46 Tryz.underlying5 Tryz.underlying9
   have JD:=fun j=>hs1 (w.drewN j) rfl
   have Ja:=fun j=>hs2 (w.drewN j) rfl
   generalize rs[k]=r at *;clear hs1 hs2;go_wp2
   go_quiet (fail)
   go_wp2;go_roundw
   case rel=>exact⟨k+1,by omega,by go_num,_,rfl⟩
   case measure=>simp[intOf];omega
  ·go_wp2
   go_ret;exact⟨rfl,m,rfl⟩
end Go.Proofs.YtmbkaedhllfoeaaGreat
namespace Go.Pg
theorem rising_go{rs:List Rw}{k:Nat}(h:k+1<rs.length):risingA (rs[k]'(by omega)).1 (rs.drop (k+1))=(!(sle rs[k+1].1 (rs[k]'(by omega)).1) && risingA rs[k+1].1 (rs.drop (k+2))):=by
 rw[List.drop_eq_getElem_cons h,risingA]
end Go.Pg
namespace Go.Proofs.YtmbkaedhllfoeaaGreat
open Go.RowKit Go.Rst Go.Pg
theorem refRising_any(v:Value)(rs:List Rw)(w:World)(hv:RR w v rs):
  Calls Tryz.prog 103 #[v] w fun e w'=>e= .returned (.bool (risingL rs))∧Below w.heap.size w w':=by
 have HV:=qH hv;obtain⟨A,c,rfl,hlc,hc,_⟩:=hv;unfold maxLen at hc;go_enter Tryz.func103,Tryz.ntmps103;go_wp2
 go_loopw [3] (fun i wr=>∃k:Nat,i= .int .i64 ((k:Int)+1)∧((rs.length≤k+1∧risingL rs=true)∨∃(h:k<rs.length),risingL rs=risingA rs[k].1 (rs.drop (k+1)))∧Below w.heap.size w wr) (fun i _=>rs.length-(intOf i).toNat)
 case atStart=>
  refine⟨0,rfl,?_,Below.refl _ _⟩
  cases rs with
  |nil=>exact .inl ⟨by simp,rfl⟩
  |cons r rs=>exact .inr ⟨by simp,rfl⟩
 case round=>
  obtain⟨k,rfl,hf,ad⟩:=hrel;by_cases hlt:k+1<rs.length
  ·have hf2:risingL rs=risingA (rs[k]'(by omega)).1 (rs.drop (k+1)):=by
    rcases hf with ⟨h,_⟩|⟨_,h⟩
    ·omega
    ·exact h
   rw[rising_go hlt] at hf2;obtain⟨b,off,u,rfl,hx0,_,_⟩:=rr_at HV.out (k:=k) (by omega);obtain⟨b',off',u',he,hx1,_,_⟩:=rr_at HV.out hlt;injection he with he;injection he with e1 e2 _;subst e1;subst e2;have hb:=rr_block HV.out (by omega);have hx:=(ad.cell (p:=⟨b,off+k*2,none⟩) hb).trans hx0;have hy:=(ad.cell (p:=⟨b,off+(k+1)*2,none⟩) hb).trans hx1;have hge:∃h:k+1<rs.length,rs[k+1].1=rs[k+1].1:=⟨hlt,rfl⟩
   obtain⟨ky,mt⟩:∃x,x=(rs[k]'(by omega)).1:=⟨_,rfl⟩
   obtain⟨kz,sf⟩:∃x,x=rs[k+1].1:=⟨_,rfl⟩
   rw[←mt] at hx hf2;rw[←sf] at hy hf2;have HF:=qH hf2;have CY:=qH sf;have HB:=qH ad;have hk1:((k:Int)+1)<rs.length:=by omega
   have DB:(k:Int)+2≤9223372036854775807:=by omega
   have hx':=fun j=>(show(wr.drewN j).cell? ⟨b,off+k*2,none⟩=_ from hx)
   have hy':=fun j=>(show(wr.drewN j).cell? ⟨b,off+(k+1)*2,none⟩=_ from hy)
   have ek:IntKind.i64.wrap ((k:Int)+1-1)=(k:Int):=by rw[IntKind.wrap_i64];omega
   have et:((k:Int)+1).toNat=k+1:=by omega
   have b1:(0:Int)≤(k:Int):=by omega
   have b2:(k:Int)<rs.length:=by omega
   have b3:(0:Int)≤(k:Int)+1:=by omega
   clear hf2 hf ad hx0 hx1 mt sf HV hge;rcases sle_cases kz ky with ⟨h0,h1⟩|⟨h0,h1,h2⟩|⟨h0,h1,h2⟩
   ·have E:=qH (show risingL rs=false by rw[HF.out,h0];rfl)
    clear h0 HF;go_wp2
    go_quiet (fail)
    clear ek et;go_wp2;go_ret;rw[E.out];exact⟨rfl,HB.out.os,HB.out.tape,HB.out.output,HB.out.size,HB.out.block⟩
   ·have E:=qH (show risingL rs=false by rw[HF.out,h0];rfl)
    clear h0 HF;go_wp2
    go_quiet (fail)
    clear ek et;go_wp2;go_ret;rw[E.out];exact⟨rfl,HB.out.os,HB.out.tape,HB.out.output,HB.out.size,HB.out.block⟩
   ·have E:=qH (show risingL rs=risingA kz (rs.drop (k+2)) by rw[HF.out,h0];rfl)
    clear h0 HF;go_wp2
    go_quiet (fail)
    clear ek et hx hy hx' hy';go_wp2;go_roundw
    case rel=>exact⟨k+1,by go_num,.inr ⟨hlt,by rw[←CY.out];exact E.out⟩,⟨HB.out.os,HB.out.tape,HB.out.output,HB.out.size,HB.out.block⟩⟩
    case measure=>simp[intOf];omega
  ·have E:=qH (show risingL rs=true by
    rcases hf with ⟨_,h⟩|⟨h0,h⟩
    ·exact h
    ·rw[h,List.drop_eq_nil_of_le (by omega)];rfl)
   have HB:=qH ad;have hk1:(rs.length:Int)≤((k:Int)+1):=by omega
   clear hf ad;go_wp2;go_ret;rw[E.out];exact⟨rfl,HB.out⟩
theorem refFit_any(v:Value)(rs:List Rw)(w:World)(hv:RR w v rs):
  Calls Tryz.prog 136 #[v] w fun e w'=>e= .returned (.int .i64 (fitN rs:Nat))∧Below w.heap.size w w':=by
 have HV:=qH hv;obtain⟨A,c,rfl,hlc,hc,_⟩:=hv;unfold maxLen at hc;go_enter Tryz.func136,Tryz.ntmps136;go_wp2
 go_loopw [3,4] (fun left i wr=>∃k:Nat,k≤rs.length∧i= .int .i64 k∧left= .int .i64 (used (rs.take k):Nat)∧used (rs.take k)≤250∧fitN rs=k+fitF (rs.drop k) (250-used (rs.take k))∧Below w.heap.size w wr)
  (fun _ i _=>rs.length-(intOf i).toNat)
 case atStart=>exact⟨0,Nat.zero_le _,rfl,rfl,by simp[used,body],by simp[used,body,fitN],Below.refl _ _⟩
 case round=>
  obtain⟨k,hk,rfl,rfl,hu,hf,ad⟩:=hrel;by_cases hlt:k<rs.length
  ·obtain⟨b,off,u,rfl,hx0,hy0,fl⟩:=rr_at HV.out hlt
   have hb:b<w.heap.size:=by
    obtain⟨A',c',he,_,_,h3⟩:=HV.out;injection he with e1 _ _;rcases h3 with rfl|⟨b',off',h4,h5,_⟩
    ·simp at hlt
    ·rw[h4] at e1;injection e1 with e1;injection e1 with e1 _ _;omega
   have hx:=(ad.cell (p:=⟨b,off+k*2,none⟩) hb).trans hx0;have hy:=(ad.cell (p:=⟨b,off+k*2+1,none⟩) hb).trans hy0;have bi:=fl.below ad;rw[fit_go hlt hu,used_take hlt] at hf;have mz:=used_take hlt;have eu:=rowB_pos rs[k];unfold rsz at hf mz;generalize rs[k]=r at *;obtain⟨key,l⟩:=r;simp only[] at hx hy bi hf mz;obtain⟨U,hU⟩:∃U,U=used (rs.take k):=⟨_,rfl⟩
   rw[←hU] at hu hf mz;have HU:=qH hU;have HF:=qH hf;have kE:=qH mz;obtain⟨A2,c2,rfl,g1,g2,_⟩:∃A2 c2,u= .slice A2 l.length c2∧l.length≤c2∧c2≤maxLen∧True:=by
    obtain⟨A2,c2,h,h1,h2,_⟩:=bi;exact⟨A2,c2,h,h1,h2,trivial⟩
   have hB:=ad;have HB:=qH ad;have hsz:=ad.size;have HR:=qH bi;unfold maxLen at g2;rw[←hU];clear hU hf mz hx0 hy0 fl ad bi HV;by_cases hkey:30<key.size
   ·have E:=qH (show fitN rs=k by have:=HF.out;rw[if_pos (.inl hkey)] at this;exact this)
    have hkey':(30:Int)<(key.size:Int):=by omega
    clear HF kE;go_wp2;go_ret;rw[E.out];exact⟨rfl,HB.out⟩
   ·have hkey':(key.size:Int)≤30:=by omega
    by_cases hval:150<l.length
    ·have E:=qH (show fitN rs=k by have:=HF.out;rw[if_pos (.inr hval)] at this;exact this)
     have hval':(150:Int)<(l.length:Int):=by omega
     clear HF kE;go_wp2;go_ret;rw[E.out];exact⟨rfl,HB.out⟩
    ·have hval':(l.length:Int)≤150:=by omega
     have hF:=HF.out;rw[if_neg (by omega)] at hF;have cJ:=qH hF;have hcall:=fun W hW=>refBytes_any key (.slice A2 l.length c2) l (by omega) (by omega) W hW
     have HL:=qH hcall;obtain⟨R,hR⟩:∃R,R=(rowB (key,l)).length:=⟨_,rfl⟩
     have sG:(rowL key.data.toList l).length=R:=hR.symm;rw[←hR] at cJ kE eu;have cM:=qH sG;have Kl:R≤1000000:=by
      have h1:=numL_len8 (n:=key.data.toList.length) (by rw[Array.length_toList];show key.size≤_;omega);have h2:=numL_len8 (n:=l.length) (by omega);have h3:key.data.toList.length=key.size:=by rw[Array.length_toList];rfl
      rw[←sG];unfold rowL textL;simp only[List.length_append];omega
     clear HF hF hcall hR sG;go_wp2_with fail
     refine(HL.out _ HR.out).mono ?_;rintro e w2⟨v2,rfl,hown2,ag⟩;have hb3:Below w.heap.size w w2:=HB.out.trans (ag.mono hsz);rw[cM.out] at hown2;obtain⟨A3,c3,rfl,g3⟩:=own_shape hown2;have ak:=qH hb3;clear hown2 ag hb3 hx hy;by_cases hroom:250<U+(1+R)
     ·have E:=qH (show fitN rs=k by have:=cJ.out;rw[if_pos hroom] at this;exact this)
      have hroom':(250:Int)<(U:Int)+(1+(R:Int)):=by omega
      clear cJ kE;go_wp2;go_ret;rw[E.out];exact⟨rfl,ak.out⟩
     ·have hroom':(U:Int)+(1+(R:Int))≤250:=by omega
      have hF:=cJ.out;rw[if_neg hroom] at hF;have ip:=qH hF;clear cJ hF;go_wp2;go_roundw
      case rel=>exact⟨k+1,by omega,by go_num,by rw[kE.out];go_num,by rw[kE.out];omega,by rw[ip.out,kE.out];omega,ak.out⟩
      case measure=>simp[intOf];omega
  ·have e:k=rs.length:=by omega
   have E:=qH (show fitN rs=rs.length by rw[hf,e,List.drop_length];simp[fitF]);have HB:=qH ad;clear hf ad hu;go_wp2;go_ret;rw[E.out];exact⟨rfl,HB.out⟩
theorem rising_any(v:Value)(rs:List Rw)(w:World)(hv:RR w v rs):
  Calls Tryz.prog 112 #[v] w fun e w'=>e= .returned (.bool (risingL rs))∧Below w.heap.size w w':=by
 have HV:=qH hv;obtain⟨A,c,rfl,hlc,hc,_⟩:=hv;unfold maxLen at hc;go_enter Tryz.func112,Tryz.ntmps112;go_wp2
 go_loopw [3] (fun i wr=>∃k:Nat,i= .int .i64 ((k:Int)+1)∧((rs.length≤k+1∧risingL rs=true)∨∃(h:k<rs.length),risingL rs=risingA rs[k].1 (rs.drop (k+1)))∧Below w.heap.size w wr) (fun i _=>rs.length-(intOf i).toNat)
 case atStart=>
  refine⟨0,rfl,?_,Below.refl _ _⟩
  cases rs with
  |nil=>exact .inl ⟨by simp,rfl⟩
  |cons r rs=>exact .inr ⟨by simp,rfl⟩
 case round=>
  obtain⟨k,rfl,hf,ad⟩:=hrel;by_cases hlt:k+1<rs.length
  ·have hf2:risingL rs=risingA (rs[k]'(by omega)).1 (rs.drop (k+1)):=by
    rcases hf with ⟨h,_⟩|⟨_,h⟩
    ·omega
    ·exact h
   rw[rising_go hlt] at hf2;obtain⟨b,off,u,rfl,hx0,_,_⟩:=rr_at HV.out (k:=k) (by omega);obtain⟨b',off',u',he,hx1,_,_⟩:=rr_at HV.out hlt;injection he with he;injection he with e1 e2 _;subst e1;subst e2;have hb:=rr_block HV.out (by omega);have hx:=(ad.cell (p:=⟨b,off+k*2,none⟩) hb).trans hx0;have hy:=(ad.cell (p:=⟨b,off+(k+1)*2,none⟩) hb).trans hx1;have hge:∃h:k+1<rs.length,rs[k+1].1=rs[k+1].1:=⟨hlt,rfl⟩
   obtain⟨ky,mt⟩:∃x,x=(rs[k]'(by omega)).1:=⟨_,rfl⟩
   obtain⟨kz,sf⟩:∃x,x=rs[k+1].1:=⟨_,rfl⟩
   rw[←mt] at hx hf2;rw[←sf] at hy hf2;have HF:=qH hf2;have CY:=qH sf;have HB:=qH ad;have hk1:((k:Int)+1)<rs.length:=by omega
   have DB:(k:Int)+2≤9223372036854775807:=by omega
   have hx':=fun j=>(show(wr.drewN j).cell? ⟨b,off+k*2,none⟩=_ from hx)
   have hy':=fun j=>(show(wr.drewN j).cell? ⟨b,off+(k+1)*2,none⟩=_ from hy)
   have ek:IntKind.i64.wrap ((k:Int)+1-1)=(k:Int):=by rw[IntKind.wrap_i64];omega
   have et:((k:Int)+1).toNat=k+1:=by omega
   have b1:(0:Int)≤(k:Int):=by omega
   have b2:(k:Int)<rs.length:=by omega
   have b3:(0:Int)≤(k:Int)+1:=by omega
   clear hf2 hf ad hx0 hx1 mt sf HV hge;rcases sle_cases kz ky with ⟨h0,h1⟩|⟨h0,h1,h2⟩|⟨h0,h1,h2⟩
   ·have E:=qH (show risingL rs=false by rw[HF.out,h0];rfl)
    clear h0 HF;go_wp2
    go_quiet (fail)
    clear ek et;go_wp2;go_ret;rw[E.out];exact⟨rfl,HB.out.os,HB.out.tape,HB.out.output,HB.out.size,HB.out.block⟩
   ·have E:=qH (show risingL rs=false by rw[HF.out,h0];rfl)
    clear h0 HF;go_wp2
    go_quiet (fail)
    clear ek et;go_wp2;go_ret;rw[E.out];exact⟨rfl,HB.out.os,HB.out.tape,HB.out.output,HB.out.size,HB.out.block⟩
   ·have E:=qH (show risingL rs=risingA kz (rs.drop (k+2)) by rw[HF.out,h0];rfl)
    clear h0 HF;go_wp2
    go_quiet (fail)
    clear ek et hx hy hx' hy';go_wp2;go_roundw
    case rel=>exact⟨k+1,by go_num,.inr ⟨hlt,by rw[←CY.out];exact E.out⟩,⟨HB.out.os,HB.out.tape,HB.out.output,HB.out.size,HB.out.block⟩⟩
    case measure=>simp[intOf];omega
  ·have E:=qH (show risingL rs=true by
    rcases hf with ⟨_,h⟩|⟨h0,h⟩
    ·exact h
    ·rw[h,List.drop_eq_nil_of_le (by omega)];rfl)
   have HB:=qH ad;have hk1:(rs.length:Int)≤((k:Int)+1):=by omega
   clear hf ad;go_wp2;go_ret;rw[E.out];exact⟨rfl,HB.out⟩
open Go.RowKit Go.Rst
theorem rc_at{w:World}{A:Option Addr}{n c:Nat}{rs:List Chg}(h:RC w (.slice A n c) rs){k:Nat}(hk:k<rs.length):
  ∃b off u,A=some ⟨b,off,none⟩∧w.cell? ⟨b,off+k*3,none⟩=some (.string rs[k].1)∧w.cell? ⟨b,off+k*3+1,none⟩=some u∧RB w u rs[k].2.1∧w.cell? ⟨b,off+k*3+2,none⟩=some (.bool rs[k].2.2):=by
 obtain⟨A',c',he,_,_,h3⟩:=h;injection he with e1 _ _;subst e1;rcases h3 with rfl|⟨b,off,rfl,_,hc⟩
 ·simp at hk
 ·obtain⟨h1,⟨u,h2,h3⟩,h4⟩:=hc k hk
  exact⟨b,off,u,rfl,h1,h2,h3,h4⟩
open Go.RowKit Go.Rst Go.Pg
theorem ba_ne{a b:List UInt8}(h:a≠b):(⟨a.toArray⟩:ByteArray)≠⟨b.toArray⟩:=fun e=>h (by injection e with e;simpa using e)
theorem ba_neL{a b:ByteArray}(h:a≠b):a.toList≠b.toList:=fun e=>h (ba_ext e)
end Go.Proofs.YtmbkaedhllfoeaaGreat
