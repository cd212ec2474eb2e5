/-
  Texts of the proof, put together.
-/
import Derived.Lib.AppendZerosOnto
import Derived.Test.YtmbkaedhllfoeaaGreatKPBE
import Derived.Test.YtmbkaedhllfoeaaGreatKPWr
set_option maxRecDepth 100000
set_option maxHeartbeats 4000000
set_option linter.unusedVariables false
namespace Go.Proofs.YtmbkaedhllfoeaaGreat
open Go.RowKit Go.Rst Go.Crc
theorem equal_any(v u:Value)(l m:List UInt8)(w:World)(hv:RB w v l)(hu:RB w u m):
  Calls Tryz.prog 87 #[v,u] w fun e w'=>e= .returned (.bool (l==m))∧w=w':=by
 have h1:∀w',w'=w→(convert 46 9 v).run Tryz.prog w'= .ok (.string ⟨l.toArray⟩) w':=fun w' h=>by rw[h];exact hv.str Tryz.underlying46 Tryz.underlying5 Tryz.underlying9
 have h2:=hu.str (P:=Tryz.prog) (src:=46) (dst:=9) Tryz.underlying46 Tryz.underlying5 Tryz.underlying9;have h1':=h1 w rfl;obtain⟨A,c,rfl,_⟩:=hv;obtain⟨A',c',rfl,_⟩:=hu;clear h1;go_enter Tryz.func87,Tryz.ntmps87;go_wp2;go_ret;exact⟨rfl,rfl⟩
theorem grow_zero(w:World):Calls Tryz.prog 118 #[.slice none 0 0,.int .i64 0] w fun e w'=>e= .returned (.slice none 0 0)∧w=w':=by
 go_enter Tryz.func118,Tryz.ntmps118;go_wp2;go_ret;exact⟨rfl,rfl⟩
def Room(w:World)(e:Ending)(w':World):Prop:=∃v,e= .returned v∧w'.ownsRow w.heap.size 5 1 v 0 []∧Below w.heap.size w w'
theorem room_new{w:World}{c:Nat}{cs:Array Value}(hm:c≤maxLen)(hs:cs.size=c):
  Room w (.returned (.slice (some ⟨w.heap.size,0,none⟩) 0 c)) (w.drew.alloc (.cells cs 5)):=
 ⟨_,rfl,⟨by simp,.inr ⟨w.heap.size,c,cs,rfl,Nat.le_refl _,heap_alloc_new w.drew _,Nat.zero_le _,hm,by simpa using hs,by simp⟩⟩,(Below.refl _ _).drew.alloc (Nat.le_refl _) _⟩
theorem grow_pos(n:Nat)(h0:0<n)(hn:n≤2000000)(w:World):Calls Tryz.prog 118 #[.slice none 0 0,.int .i64 n] w (Room w):=by
 obtain⟨i,hi,hz,hsz,hb⟩:=info_parts info5;have hcap:n≤grownCap w n 0 5:=grownCap_ge w n 0 5;have hcm:grownCap w n 0 5≤maxLen:=grownCap_le_maxLen w n 0 5 (by unfold maxLen;omega);have hrun:∀ty,(Builtin.append_ #[46,3] ty #[.slice none 0 0,.int .i64 n]).run Tryz.prog w=
   .ok (.slice (some ⟨w.heap.size,0,none⟩) n (grownCap w n 0 5)) (w.drew.alloc (.cells ((#[]:Array Value)++Builtin.zeroCells (Value.cells (.int .u8 0)) n++Builtin.zeroCells (Value.cells (.int .u8 0)) (grownCap w n 0 5-n)) 5)):=fun ty=>by
  have h:=Lib.run_append_grow_zeros (P:=Tryz.prog) w 46 3 ty 5 i (.int .u8 0) .i64 .i64 Tryz.underlying46 Tryz.underlying3 hi hz none 0 0 [] (by rw[hsz];exact run_firstCells_none w.drew 1 0 0 0) n h0 (by rw[hsz];decide) (by omega) (by omega) (by rw[hb];omega)
   (growslice_fits (by omega) (by rw[hb];omega))
  simpa using h
 have hsize:((#[]:Array Value)++Builtin.zeroCells (Value.cells (.int .u8 0)) n++Builtin.zeroCells (Value.cells (.int .u8 0)) (grownCap w n 0 5-n)).size=grownCap w n 0 5:=by
  simp only[Array.size_append,size_zeroCells];simp[Value.cells];omega
 generalize ((#[]:Array Value)++Builtin.zeroCells (Value.cells (.int .u8 0)) n++Builtin.zeroCells (Value.cells (.int .u8 0)) (grownCap w n 0 5-n))=cs at *;generalize grownCap w n 0 5=c at *;have hend:=room_new (w:=w) hcm hsize;have HE:=qH hend;have fw:c≤9223372036854775807:=by unfold maxLen at hcm;omega
 have HR:=qH hrun;clear hend hcm hsize hrun hi hz hsz hb;go_enter Tryz.func118,Tryz.ntmps118;go_wp2_with (at_builtin;refine Lib.wpList_append_run _ rfl _ _ _ _ rfl _ _ rfl rfl _ _ (HR.out _) ?_)
 go_ret;exact HE.out
theorem grow_any(n:Nat)(hn:n≤2000000)(w:World):Calls Tryz.prog 118 #[.slice none 0 0,.int .i64 n] w (Room w):=by
 rcases Nat.eq_zero_or_pos n with h|h
 ·subst h
  refine(grow_zero w).mono ?_;rintro e w'⟨rfl,rfl⟩;exact⟨_,rfl,World.ownsRow_nil _ _ _ _,Below.refl _ _⟩
 ·exact grow_pos n h hn w
def PS(w:World)(v:Value)(ps:List (Value×List UInt8)):Prop:=
 ∃g off c,v= .slice (some ⟨g,off,none⟩) ps.length c∧ps.length≤c∧c≤maxLen∧g<w.heap.size∧∀j (h:j<ps.length),w.cell? ⟨g,off+j,none⟩=some ps[j].1∧RB w ps[j].1 ps[j].2
theorem PS.two{w:World}{v0 v1:Value}{l0 l1:List UInt8}{e:TypeId}(h0:RB w v0 l0)(h1:RB w v1 l1):
  PS (w.alloc (.cells #[v0,v1] e)) (.slice (some ⟨w.heap.size,0,none⟩) 2 2) [(v0,l0),(v1,l1)]:=by
 refine⟨w.heap.size,0,2,rfl,by simp,by decide,by simp,fun j hj=>?_⟩;have hc:=cell_of_row (w.alloc (.cells #[v0,v1] e)) w.heap.size (0+j) #[v0,v1] e (0,0) (heap_alloc_new w _)
 match j,hj with
 |0,_=>exact⟨hc,h0.alloc _⟩
 |1,_=>exact⟨hc,h1.alloc _⟩
def cat(ps:List (Value×List UInt8)):List UInt8:=ps.flatMap fun p=>p.2
theorem cat_take{ps:List (Value×List UInt8)}{k:Nat}(h:k<ps.length):cat (ps.take (k+1))=cat (ps.take k)++ps[k].2:=by
 unfold cat;rw[List.take_succ_eq_append_getElem h,List.flatMap_append];simp
theorem cat_le(ps:List (Value×List UInt8))(k:Nat):(cat (ps.take k)).length≤(cat ps).length:=by
 conv=>rhs;rw[←List.take_append_drop k ps]
 unfold cat;rw[List.flatMap_append,List.length_append];omega
theorem concat_any(v:Value)(ps:List (Value×List UInt8))(w:World)(hv:PS w v ps)(hl:(cat ps).length≤1000000):
  Calls Tryz.prog 78 #[v] w (NewB 5 w (cat ps)):=by
 obtain⟨g,off,c,rfl,hlc,hcm,hg,hcells⟩:=hv;simp only[maxLen] at hcm;have HC:=qH hcells;clear hcells;go_enter Tryz.func78,Tryz.ntmps78;go_wp2
 go_loop [3,11] (fun n i=>∃k:Nat,k≤ps.length∧i= .int .i64 k∧n= .int .i64 ((cat (ps.take k)).length:Nat)) (fun _ i=>ps.length-(intOf i).toNat)
 case atStart=>exact⟨0,Nat.zero_le _,rfl,rfl⟩
 case round=>
  obtain⟨k,hk,rfl,rfl⟩:=hrel;by_cases hlt:k<ps.length
  ·obtain⟨hc,hr⟩:=HC.out k hlt
   have ht:=congrArg List.length (cat_take hlt);rw[List.length_append] at ht;have hle:=cat_le ps (k+1);rw[ht] at hle;obtain⟨p,hp⟩:∃p,p=ps[k]:=⟨_,rfl⟩
   rw[←hp] at hc hr ht hle;obtain⟨pv,pl⟩:=p;obtain⟨A,c',he,h1,h2,_⟩:=hr;simp only at he;subst he;generalize (cat (ps.take k)).length=n at *;have HT:=qH ht;simp only at hc hle;clear hp ht;go_wp2;go_round
   case rel=>exact⟨k+1,by omega,by go_num,by rw[HT.out];go_num⟩
   case measure=>simp[intOf];omega
  ·have e:k=ps.length:=by omega
   rw[e,List.take_length];have hn:(cat ps).length≤2000000:=by omega
   have HE:=qH e;clear e;go_wp2_with fail
   refine(grow_any _ hn _).mono ?_;rintro e w1⟨v1,rfl,hown,ad⟩;have HO:=qH hown;have HB:=qH ad;clear hown ad;go_wp2
   go_loopw [6,27] (fun b i wr=>∃k:Nat,k≤ps.length∧i= .int .i64 k∧wr.ownsRow w.heap.size 5 1 b (cat (ps.take k)).length (bvs (cat (ps.take k)))∧Below w.heap.size w wr) (fun _ i _=>ps.length-(intOf i).toNat)
   case atStart=>exact⟨0,Nat.zero_le _,rfl,HO.out,HB.out⟩
   case round=>
    clear HO HB;obtain⟨k,hk,rfl,hown,ad⟩:=hrel;by_cases hlt:k<ps.length
    ·obtain⟨hc,hr⟩:=HC.out k hlt
     have hc':=(ad.cell (p:=⟨g,off+k,none⟩) hg).trans hc;have ht:=cat_take hlt;have hle:=cat_le ps (k+1);rw[ht,List.length_append] at hle;obtain⟨p,hp⟩:∃p,p=ps[k]:=⟨_,rfl⟩
     rw[←hp] at hc' hr ht hle;obtain⟨pv,pl⟩:=p;have hr':=hr.below ad;simp only at hr';have HR:=qH hr';obtain⟨A,c',he,h1,h2,_⟩:=hr;simp only at he;subst he;simp only at hc' hle ht;generalize cat (ps.take k)=acc at *;have HT:=qH ht;have HO:=qH hown;have HB:=qH ad;clear hp ht hown ad hc hr' HE;go_wp2_with (at_builtin;refine wpList_own rfl (.tmp 31) (.tmp 32) 46 46 rfl w.heap.size 5 (.int .u8 0) 1 1 Tryz.underlying46 info5 rfl rfl HO.out rfl (HR.out.src Tryz.underlying46) HB.out (Nat.le_refl _) ?_ ?_ ?_ ?_)
     ·unfold maxLen;omega
     ·omega
     ·exact HB.out.size
     ·intro v2 w2 hown2 ag _
      have fQ:=qH hown2;have ae:=qH ag;clear hown2 ag;go_wp2;go_roundw
      case rel=>exact⟨k+1,by omega,by go_num,by rw[HT.out];exact own_cat fQ.out,ae.out⟩
      case measure=>simp[intOf];omega
    ·have e:k=ps.length:=by omega
     rw[e,List.take_length] at hown;have HO:=qH hown;have HB:=qH ad;clear hown ad e HE;go_wp2;go_ret;exact⟨_,rfl,HO.out,HB.out⟩
theorem seal_any(v:Value)(l:List UInt8)(w:World)(hv:RB w v l)(hl:l.length≤900000):
  Calls Tryz.prog 119 #[v] w (NewB 5 w (sealL l)):=by
 have hs:=csum_lt l;have HV:=qH hv;obtain⟨A,c,rfl,_⟩:=hv;go_enter Tryz.func119,Tryz.ntmps119;go_wp2_with fail
 refine(sum_any _ l _ HV.out).mono ?_;rintro e w1⟨rfl,ad⟩;have HB:=qH ad;clear ad;go_wp2_with fail
 refine(tail_any _ hs _).mono ?_;rintro e w2⟨v2,rfl,hown,ad⟩;have hb2:=HB.out.trans (ad.mono HB.out.size);have hps:=PS.two (e:=46) (HV.out.below hb2) (RB.own hown);have HO:=qH hps;have ae:=qH hb2;obtain⟨A2,c2,rfl,_⟩:=own_shape hown;clear hown ad hps hb2;go_wp2_with fail
 refine(concat_any _ _ _ HO.out (by simp[cat,tailL_length];omega)).mono ?_;rintro e w3⟨v3,rfl,hown,ad⟩;have jC:=qH hown;have ak:=qH ad;clear hown ad;go_wp2;go_ret;have h3:Below w.heap.size w w3:=(ae.out.alloc ae.out.size _).trans (ak.out.mono (by have:=ae.out.size;simp;omega));have e:cat [(Value.slice A l.length c,l),(Value.slice A2 (tailL (csum l)).length c2,tailL (csum l))]=sealL l:=by simp[cat,sealL]
 refine⟨v3,rfl,?_,h3⟩;have h4:=own_base jC.out (base':=w.heap.size) (by have:=ae.out.size;simp;omega);rw[e] at h4;exact h4
abbrev eqVal:Value:= .func (.func 87) #[] #[]
theorem eqF_any(va vb:Value)(ps qs:List (List UInt8))(w:World)(ha:RP w va ps)(hb:RP w vb qs):
  Calls Tryz.prog 86 #[va,vb,eqVal] w fun e w'=>e= .returned (.bool (decide (ps=qs)))∧w=w':=by
 have HA:=qH ha;have HB:=qH hb;obtain⟨A1,c1,rfl,Bd,hc1,_⟩:=ha;obtain⟨A2,c2,rfl,hl2,hc2,_⟩:=hb;unfold maxLen at hc1 hc2;by_cases hlen:ps.length=qs.length
 ·have oY:((ps.length:Int) !=(qs.length:Int))=false:=by simp[hlen]
  have HL:=qH hlen;clear hlen;go_enter Tryz.func86,Tryz.ntmps86;go_wp2
  go_loopw [17] (fun i wr=>∃k:Nat,k≤ps.length∧i= .int .i64 k∧ps.take k=qs.take k∧w=wr) (fun i _=>ps.length-(intOf i).toNat)
  case atStart=>exact⟨0,Nat.zero_le _,rfl,rfl,rfl⟩
  case round=>
   obtain⟨k,hk,rfl,htk,rfl⟩:=hrel;have nn:=qH htk;clear htk;by_cases hlt:k<ps.length
   ·have oO:k<qs.length:=by rw[←HL.out];exact hlt
    obtain⟨b1,o1,u1,rfl,hb1,hx1,hr1⟩:=rp_at HA.out hlt;obtain⟨b2,o2,u2,rfl,hb2,hx2,hr2⟩:=rp_at HB.out oO;have hcall:=equal_any u1 u2 _ _ w hr1 hr2;obtain⟨A3,c3,hu1,_⟩:=hr1;obtain⟨A4,c4,hu2,_⟩:=hr2;obtain⟨n1,iz⟩:∃n,n=ps[k].length:=⟨_,rfl⟩
    obtain⟨n2,iR⟩:∃n,n=qs[k].length:=⟨_,rfl⟩
    rw[←iz] at hu1;rw[←iR] at hu2;subst hu1;subst hu2;have q1:(0:Int)≤(k:Int):=by omega
    have q2:(k:Int)<ps.length:=by omega
    have q3:(k:Int)<qs.length:=by omega
    cases he:(ps[k]==qs[k]) with
    |false=>
     rw[he] at hcall;have E:=qH (show decide (ps=qs)=false by
      rw[decide_eq_false_iff_not];intro h;have:ps[k]=qs[k]:=by simp only[h]
      rw[this] at he;simp at he)
     have HC:=qH hcall;clear hcall he iz iR;go_wp2_with fail
     refine HC.out.mono ?_;rintro e w'⟨rfl,rfl⟩;go_wp2;go_ret;rw[E.out];exact⟨rfl,rfl⟩
    |true=>
     rw[he] at hcall;have HE:=qH (show ps.take (k+1)=qs.take (k+1) by
      rw[List.take_succ_eq_append_getElem hlt,List.take_succ_eq_append_getElem oO,nn.out,eq_of_beq he])
     have HC:=qH hcall;clear hcall he iz iR;go_wp2_with fail
     refine HC.out.mono ?_;rintro e w'⟨rfl,rfl⟩;go_wp2;go_roundw
     case rel=>exact⟨k+1,by omega,by go_num,HE.out,by first|rfl|trivial⟩
     case measure=>simp[intOf];omega
   ·obtain rfl:k=ps.length:=by omega
    have E:=qH (show decide (ps=qs)=true by
     rw[decide_eq_true_iff];have:=nn.out;rw[List.take_length,HL.out,List.take_length] at this;exact this)
    go_wp2;go_ret;rw[E.out];exact⟨rfl,rfl⟩
 ·have oY:((ps.length:Int) !=(qs.length:Int))=true:=by simp;omega
  have E:=qH (show decide (ps=qs)=false by
   rw[decide_eq_false_iff_not];intro h;exact hlen (by rw[h]))
  clear hlen;go_enter Tryz.func86,Tryz.ntmps86;go_wp2;go_ret;rw[E.out];exact⟨rfl,rfl⟩
end Go.Proofs.YtmbkaedhllfoeaaGreat
