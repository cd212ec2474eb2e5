/-
  Texts of the proof, put together.
-/
import Derived.Deep.QuietTactic
import Derived.BigQuiet
import Derived.Test.YtmbkaedhllfoeaaGreatKOD
import Derived.Test.YtmbkaedhllfoeaaGreatKOJ
import Derived.Test.YtmbkaedhllfoeaaGreatKOWr
set_option maxRecDepth 100000
set_option maxHeartbeats 4000000
set_option linter.unusedVariables false
namespace Go.Proofs.YtmbkaedhllfoeaaGreat
open Go.RowKit Go.Rst Go.Pg Go.Crc
def PR(w:World)(g:Nat)(P:List UInt8):Prop:=P.length=252∧Blk w g 5 (bvs P).toArray
theorem PR.lt{w:World}{g:Nat}{P:List UInt8}(h:PR w g P):g<w.heap.size:=h.2.lt
theorem PR.start{w:World}{lev n:UInt8}{Z:List Value}(hZ:Z=bvs (List.replicate 252 0)):
  PR (w.alloc (.cells ((Z.toArray.setIfInBounds 0 (bv lev)).setIfInBounds 1 (bv n)) 5)) w.heap.size (pageA lev n [] []):=by
 subst hZ;refine⟨by rw[pageA_length (by simp)],?_⟩;have e2:bvs (List.replicate 252 (0:UInt8))=bv 0::bv 0::bvs (List.replicate 250 0):=by
  rw[show(252:Nat)=250+1+1 from rfl,List.replicate_succ,List.replicate_succ];rfl
 have e:(((bvs (List.replicate 252 0)).toArray.setIfInBounds 0 (bv lev)).setIfInBounds 1 (bv n))=(bvs (pageA lev n [] [])).toArray:=by
  rw[pageA_nil,e2,List.setIfInBounds_toArray,List.setIfInBounds_toArray,List.set_cons_zero,List.set_cons_succ,List.set_cons_zero];rfl
 rw[e];exact heap_alloc_new w _
theorem PR.below{B:Nat}{w w':World}{g:Nat}{P:List UInt8}(h:PR w g P)(hb:Below B w w')(hg:g<B):PR w' g P:=⟨h.1,h.2.below hb hg⟩
theorem PR.rb{w:World}{g:Nat}{P:List UInt8}(h:PR w g P):RB w (.slice (some ⟨g,0,none⟩) 252 252) P:=by
 refine⟨_,252,by rw[h.1],by rw[h.1];decide,by decide,.inr ⟨g,0,rfl,h.2.lt,fun j hj=>?_⟩⟩;rw[Nat.zero_add,h.2.cell,bva_get hj]
theorem PR.set_{w:World}{g:Nat}{P:List UInt8}(h:PR w g P)(k:Nat)(c:UInt8):PR (w.setCell ⟨g,k,none⟩ (bv c)) g (P.set k c):=by
 refine⟨by rw[List.length_set,h.1],?_⟩;have:=h.2.set_ k (bv c);have e:(bvs P).toArray.setIfInBounds k (bv c)=(bvs (P.set k c)).toArray:=by
  rw[List.setIfInBounds_toArray];unfold bvs;rw[←List.map_set]
 rw[e] at this;exact this
theorem PR.any{w:World}{g:Nat}{P:List UInt8}(h:PR w g P){k:Nat}(hk:k<252):∃x:UInt8,w.cell? ⟨g,k,none⟩=some (bv x):=
 ⟨_,(h.2.cell k).trans (bva_get (by rw[h.1];exact hk))⟩
theorem make252:∀w,(Instr.makeSlice 46 (.int .i64 252) (.int .i64 252)).run Tryz.prog w= .ok (.slice (some ⟨w.heap.size,0,none⟩) 252 252) (w.alloc (.cells (bvs (List.replicate 252 0)).toArray 5)):=fun _=>by kernel_rfl
theorem refEnc_low(lev:Int)(h:lev<0∨4<lev)(v:Value)(rs:List Rw)(w:World)(hv:RR w v rs):
  Calls Tryz.prog 137 #[.int .i64 lev,v] w (GivesEnc w lev rs):=by
 have E:=qH (show pageOk lev rs=false by unfold pageOk;simp;omega);obtain⟨A,c,rfl,hlc,hc,_⟩:=hv;rcases h with h|h
 ·go_enter Tryz.func137,Tryz.ntmps137
  go_wp2
  go_ret2
  exact GivesEnc.not E.out (Below.refl _ _)
 ·have h0:0≤lev:=by omega
  go_enter Tryz.func137,Tryz.ntmps137;go_wp2
  go_ret2
  exact GivesEnc.not E.out (Below.refl _ _)
theorem refEnc_full(lev:Int)(h0:0≤lev)(h4:lev≤4)(v:Value)(rs:List Rw)(hf:fitN rs<rs.length)(w:World)(hv:RR w v rs):
  Calls Tryz.prog 137 #[.int .i64 lev,v] w (GivesEnc w lev rs):=by
 have E:=qH (show pageOk lev rs=false by unfold pageOk;simp;omega);have hc:=refFit_any v rs w hv;obtain⟨A,c,rfl,_⟩:=hv;have hf':((fitN rs:Nat):Int)<(rs.length:Int):=by omega
 go_enter Tryz.func137,Tryz.ntmps137;go_wp2_with fail
 refine hc.mono ?_;rintro e w1⟨rfl,ad⟩;have HB:=qH ad;clear ad;go_wp2
 go_ret2
 exact GivesEnc.not E.out HB.out
theorem refEnc_fits(lev:Nat)(h4:lev≤4)(v:Value)(rs:List Rw)(hf:fitN rs=rs.length)(w:World)(hv:RR w v rs):
  Calls Tryz.prog 137 #[.int .i64 lev,v] w (GivesEnc w lev rs):=by
 have E:=qH (show pageOk lev rs=true by unfold pageOk;simp;omega);have hcall:=refFit_any v rs w hv;rw[hf] at hcall;obtain⟨ag,hok⟩:=(fitN_all rs).1 hf;have bm:=qH hok;have du:rs.length+(body rs).length≤250:=ag;have bZ:=qH ag;have HV:=qH hv;have hlen:rs.length≤250:=by omega
 obtain⟨A,c,rfl,_⟩:=hv;have hbl:=bv_nat (show lev<256 by omega);have lK:=bv_nat (show rs.length<256 by omega);obtain⟨Z,hZ⟩:∃Z,Z=bvs (List.replicate 252 0):=⟨_,rfl⟩
 have mk:=make252;rw[←hZ] at mk;have HZ:=qH hZ;have hz0:Z.toArray[0]? =some (.int .u8 0):=by rw[hZ];simp[bvs,bv]
 have hz1:Z.toArray[1]? =some (.int .u8 0):=by rw[hZ];simp[bvs,bv]
 obtain⟨ZA,EM⟩:∃ZA,ZA=Z.toArray:=⟨_,rfl⟩
 rw[←EM] at hz0 hz1 mk;have Jg:=qH EM;have fI:=qH hbl;have iL:=qH lK;clear hZ hbl lK hok ag du hf EM;go_enter Tryz.func137,Tryz.ntmps137;go_wp2_with fail
 refine hcall.mono ?_;rintro e w1⟨rfl,ad⟩;have HB:=qH ad;have hsz1:=ad.size;clear ad hcall;go_wp2;have hP:PR (w1.alloc (.cells ((ZA.setIfInBounds 0 (.int .u8 lev)).setIfInBounds 1 (.int .u8 rs.length)) 5)) w1.heap.size (pageA (UInt8.ofNat lev) (UInt8.ofNat rs.length) [] []):=by
  rw[fI.out,iL.out,Jg.out];exact PR.start HZ.out
 have xW:Below w.heap.size w (w1.alloc (.cells ((ZA.setIfInBounds 0 (.int .u8 lev)).setIfInBounds 1 (.int .u8 rs.length)) 5)):=HB.out.alloc hsz1 _;obtain⟨H,hH⟩:∃H,H=w1.heap.size:=⟨_,rfl⟩
 rw[←hH] at hP⊢;have ww:w.heap.size≤H:=by omega
 have HH:=qH hH;have HP:=qH hP;have sE:=qH xW;clear hP xW hH mk hz0 hz1
 go_loopw [7,8] (fun at_ i wr=>∃k:Nat,k≤rs.length∧i= .int .i64 k∧(∃T:Nat,T+(body (rs.take k)).length=252∧at_= .int .i64 T)∧PR wr H (pageA (UInt8.ofNat lev) (UInt8.ofNat rs.length) (slots (rs.take k)) (body (rs.take k)))∧Below w.heap.size w wr)
  (fun _ i _=>rs.length-(intOf i).toNat)
 case atStart=>exact⟨0,Nat.zero_le _,rfl,⟨252,rfl,rfl⟩,HP.out,sE.out⟩
 case round=>
  obtain⟨k,hk,rfl,⟨T,hT,rfl⟩,hP,ad⟩:=hrel;have yX:=body_len k rs;have ag:=bZ.out;have du:rs.length+(body rs).length≤250:=ag;obtain⟨Wo,iB⟩:∃x,x=wr:=⟨_,rfl⟩
  subst iB;by_cases hlt:k<rs.length
  ·obtain⟨b,off,u,rfl,hx0,hy0,fl⟩:=rr_at HV.out hlt
   have hb:b<w.heap.size:=by
    obtain⟨A',c',he,_,_,h3⟩:=HV.out;injection he with e1 _ _;rcases h3 with rfl|⟨b',off',h4,h5,_⟩
    ·simp at hlt
    ·rw[h4] at e1;injection e1 with e1;injection e1 with e1 _ _;omega
   have hx:=(ad.cell (p:=⟨b,off+k*2,none⟩) hb).trans hx0;have hy:=(ad.cell (p:=⟨b,off+k*2+1,none⟩) hb).trans hy0;have bi:=fl.below ad;have hok:=bm.out rs[k] (List.getElem_mem hlt);have hb1:=body_take hlt;have hb2:=body_len (k+1) rs;have hst:=slots_take hlt;have hsl:=slots_length (rs.take k);rw[List.length_take,Nat.min_eq_left hk] at hsl;rw[hb1,List.length_append] at hb2;have ij:slot (rs.take (k+1))=UInt8.ofNat (252-((rowB rs[k]).length+(body (rs.take k)).length)):=by unfold slot;rw[hb1,List.length_append]
   rw[ij] at hst;have al:=qH hb1;have HST:=qH hst;generalize rs[k]=r at *;obtain⟨key,l⟩:=r;simp only[] at hx hy bi hok;obtain⟨A2,c2,rfl,g1,g2,_⟩:∃A2 c2,u= .slice A2 l.length c2∧l.length≤c2∧c2≤maxLen∧True:=by
    obtain⟨A2,c2,h,h1,h2,_⟩:=bi;exact⟨A2,c2,h,h1,h2,trivial⟩
   unfold maxLen at g2;generalize body (rs.take k)=bd at *;generalize slots (rs.take k)=ss at *;obtain⟨row,hrow⟩:∃row,row=rowB (key,l):=⟨_,rfl⟩
   rw[←hrow] at hb2 al HST ij;have j1:=rowB_pos (key,l);rw[←hrow] at j1;have hrow2:rowL key.data.toList l=row:=hrow.symm;have hkey:key.size≤30:=hok.1;have hval:l.length≤150:=hok.2;have hcall:=fun W hW=>refBytes_any key (.slice A2 l.length c2) l (by omega) (by omega) W hW
   rw[hrow2] at hcall;have HL:=qH hcall;have j5:=qH hP;have ae:=qH ad;have HR:=qH bi;have hsz:=ad.size;have EW:=hP.lt;clear hP ad bi hcall hrow hrow2 hb1 hst ij hx0 hy0 fl hok HP sE bm;go_wp2_with fail
   refine(HL.out _ HR.out).mono ?_;rintro e w2⟨v2,rfl,hown2,af⟩;have hb3:Below w.heap.size w w2:=ae.out.trans (af.mono hsz);have f6:PR w2 H _:=j5.out.below af EW;have bY:=RB.own hown2;obtain⟨b3,c3,rfl,hbb,E8,Dw⟩:=own_addr hown2 (by omega);obtain⟨R,hR⟩:∃R,R=row.length:=⟨_,rfl⟩
   have hne:b3≠H:=by omega
   obtain⟨Q,hQ⟩:∃Q,Q=T-R:=⟨_,rfl⟩
   have LO:(T:Int)-(R:Int)=(Q:Int):=by omega
   have Kx:Q+R+bd.length=252:=by omega
   have Jq:(Q:Int)<256:=by omega
   have Jo:(0:Int)≤(Q:Int):=by omega
   obtain⟨xb,hx2⟩:=f6.any (k:=2+k) (by omega);have hfz:=f6.2.frozen (2+k);have bH:=f6.set_ (2+k) (UInt8.ofNat Q);rw[show 2+k=2+ss.length from by omega,pageA_slot _ (by omega),←pageA_zeros (m:=R) (by simp;omega)] at bH;have kD:=bv_nat (show Q<256 by omega);have eF:=qH kD;have gu:=qH bH;have aj:=qH hb3;have jD:=qH bY;have bQ:=qH hR;rw[←hR] at j1⊢;unfold bv at hx2;have Hh:(R:Int)≤250:=by omega
   clear hown2 af hb3 bY f6 j5 hR hQ HL HR hx hy bH kD;go_wp2
   go_loopw [10] (fun q wr=>∃j:Nat,j≤R∧q= .int .i64 j∧PR wr H (pageA (UInt8.ofNat lev) (UInt8.ofNat rs.length) (ss++ [UInt8.ofNat Q]) (row.take j++(List.replicate (R-j) 0++bd)))∧RB wr (.slice (some ⟨b3,0,none⟩) R c3) row∧Below w.heap.size w wr)
    (fun q _=>R-(intOf q).toNat)
   case atStart=>
    refine⟨0,Nat.zero_le _,rfl,?_,?_,?_⟩
    ·rw[eF.out]
     have:=gu.out;rw[show 2+ss.length=2+k from by omega] at this
     simpa using this
    ·rw[bQ.out]
     exact rb_far jD.out hne _
    ·exact aj.out.setCell ww _
   case round=>
    obtain⟨j,hj,rfl,hP,bY,ad⟩:=hrel;by_cases hjR:j<R
    ·have ub:=bY
     rw[bQ.out] at ub;obtain⟨b',o',he,_,hcell⟩:=rb_cell ub (k:=j) (by have:=bQ.out;omega);injection he with he;injection he with e1 e2 _;subst e1;subst e2;rw[Nat.zero_add] at hcell;obtain⟨xc,Dy⟩:=hP.any (k:=Q+j) (by omega);have Km:=hP.2.frozen (Q+j);have tY:j<row.length:=by have:=bQ.out;omega
     have hl:(row.take j++(List.replicate (R-j) 0++bd)).length=R+bd.length:=by
      have:=bQ.out;simp;omega
     have bH:=hP.set_ (Q+j) row[j];have e1:=pageA_set (lev:=UInt8.ofNat lev) (n:=UInt8.ofNat rs.length) (ss:=ss++ [UInt8.ofNat Q]) (bd:=row.take j++(List.replicate (R-j) 0++bd)) (q:=j) row[j] (by rw[hl];omega) (by have:=bQ.out;rw[hl];simp;omega);have e2:=row_set (bd:=bd) tY;rw[←bQ.out] at e2;rw[hl,show 252-(R+bd.length)+j=Q+j from by omega,e2] at e1;rw[e1] at bH;clear e1 e2;have yk:=rb_far bY (p:=⟨H,Q+j,none⟩) hne (bv row[j]);have hb2:=ad.setCell (p:=⟨H,Q+j,none⟩) ww (bv row[j]);generalize row[j]=y at *;have xP:=qH bH;have EO:=qH yk;have ah:=qH hb2;unfold bv at hcell Dy;clear ub bH yk hb2 hl hP bY ad gu jD;go_wp2;go_roundw
     case rel=>exact⟨j+1,by omega,by go_num,xP.out,EO.out,ah.out⟩
     case measure=>simp[intOf];omega
    ·have e:j=R:=by omega
     have FZ:=hP;rw[e,Nat.sub_self,bQ.out,List.take_length] at FZ;have LV:=qH FZ;have ah:=qH ad;clear hP FZ bY ad e gu jD;go_wp2;go_roundw
     case rel=>
      refine⟨k+1,by omega,by go_num,⟨Q,by rw[al.out,List.length_append,←bQ.out];omega,rfl⟩,?_,ah.out⟩;rw[al.out,HST.out,←bQ.out,show 252-(R+bd.length)=Q from by omega]
      simpa using LV.out
     case measure=>simp[intOf];omega
  ·have e:k=rs.length:=by omega
   rw[e,List.take_length] at hP;rw[page_end] at hP;have bY:=hP.rb;have HR:=qH bY;have ae:=qH ad;have hsz:=ad.size;have wh:=hP.1;clear hP ad e HP sE yX;go_wp2_with fail
   refine(refSeal_any _ _ _ HR.out (by omega)).mono ?_;rintro e w3⟨v3,rfl,hown,ad⟩;have HO:=qH (own_base hown hsz);have aj:=qH (ae.out.trans (ad.mono hsz));clear hown ad;go_wp2
   go_ret2
   exact GivesEnc.mk E.out (by simpa using HO.out) aj.out
theorem refEnc_any(lev:Int)(v:Value)(rs:List Rw)(w:World)(hv:RR w v rs):
  Calls Tryz.prog 137 #[.int .i64 lev,v] w (GivesEnc w lev rs):=by
 by_cases h:lev<0∨4<lev
 ·exact refEnc_low lev h v rs w hv
 ·obtain⟨n,rfl⟩:=Int.eq_ofNat_of_zero_le (show 0≤lev by omega)
  have:=fitN_le rs;by_cases hf:fitN rs<rs.length
  ·exact refEnc_full n (by omega) (by omega) v rs hf w hv
  ·exact refEnc_fits n (by omega) v rs (by omega) w hv
end Go.Proofs.YtmbkaedhllfoeaaGreat
namespace Go.Pg
theorem ok_fit{lev:Int}(h0:0≤lev)(h4:lev≤4)(rs:List Rw):pageOk lev (rs.take (fitN rs))=true:=by
 have:=fitN_fit rs;unfold pageOk;simp only[decide_eq_true_eq];exact⟨h0,h4,this⟩
theorem chunk_end(f:Nat){cs:List (List Rw)}(h:cs≠ []):chunkF f cs []=some cs:=by
 cases f with
 |zero=>rfl
 |succ f=>rw[chunkF,if_pos ⟨rfl,h⟩]
theorem chunk_none{f:Nat}{cs:List (List Rw)}{l:List Rw}(hl:l≠ [])(h0:fitN l=0):chunkF (f+1) cs l=none:=by
 rw[chunkF,if_neg (fun h=>hl h.1),if_pos ⟨h0,hl⟩]
theorem chunk_more{f:Nat}{cs:List (List Rw)}{l:List Rw}(hl:l≠ [])(h0:0<fitN l):chunkF (f+1) cs l=chunkF f (cs++ [l.take (fitN l)]) (l.drop (fitN l)):=by
 rw[chunkF,if_neg (fun h=>hl h.1),if_neg (fun h=>by omega)]
theorem chunk_first(f:Nat):chunkF (f+1) [] []=some [[]]:=by
 rw[chunkF,if_neg (fun h=>h.2 rfl),if_neg (fun h=>h.2 rfl)];exact chunk_end f (by simp)
end Go.Pg
namespace Go.Proofs.YtmbkaedhllfoeaaGreat
open Go.RowKit Go.Rst Go.Pg Go.Crc
def vlen(v:Value):Nat:=match v with
 | .slice _ n _=>n
 |_=>0
def GivesLv(w:World)(r:Option (List (List UInt8)×List Rw))(e:Ending)(w':World):Prop:=
 ∃p a,e= .returned (.tuple #[p,a,.bool r.isSome])∧OP 5 46 w' w.heap.size p ((r.map (·.1)).getD [])∧OR 5 78 w' w.heap.size a ((r.map (·.2)).getD [])∧Below w.heap.size w w'
theorem GivesLv.none_{w w':World}{r:Option (List (List UInt8)×List Rw)}(h:r=none)(hb:Below w.heap.size w w'):GivesLv w r (.returned (.tuple #[.slice none 0 0,.slice none 0 0,.bool false])) w':=by
 subst h;exact⟨_,_,rfl,OP.nil_ _ _ _ _,OR.nil_ _ _ _ _,hb⟩
theorem GivesLv.some_{w w':World}{r:Option (List (List UInt8)×List Rw)}{ps:List (List UInt8)}{rs:List Rw}{p a:Value}(h:r=some (ps,rs))(hp:OP 5 46 w' w.heap.size p ps)(ha:OR 5 78 w' w.heap.size a rs)(hb:Below w.heap.size w w'):
  GivesLv w r (.returned (.tuple #[p,a,.bool true])) w':=by
 subst h;exact⟨_,_,rfl,hp,ha,hb⟩
theorem rr_drop{w:World}{b off m c:Nat}{rs:List Rw}(h:RR w (.slice (some ⟨b,off,none⟩) m c) rs){k:Nat}(hk:k≤rs.length):RR w (.slice (some ⟨b,off+k*2,none⟩) (m-k) (c-k)) (rs.drop k):=by
 obtain⟨A',c',he,h1,h2,h3⟩:=h;injection he with e1 e2 e3;subst e1;subst e2;subst e3;refine⟨some ⟨b,off+k*2,none⟩,c-k,by rw[List.length_drop],by rw[List.length_drop];omega,by omega,?_⟩;rcases h3 with rfl|⟨b',off',he,hb,hc⟩
 ·exact .inl (by simp)
 ·injection he with he
  injection he with e1 e2 _;subst e1;subst e2;refine .inr ⟨b,off+k*2,rfl,hb,fun j hj=>?_⟩;rw[List.length_drop] at hj;have:=hc (k+j) (by omega);rw[List.getElem_drop,show off+k*2+j*2=off+(k+j)*2 from by omega];exact this
theorem rr_empty{w:World}(A:Option Addr)(c:Nat)(h:c≤maxLen):RR w (.slice A 0 c) []:=⟨A,c,rfl,Nat.zero_le _,h,.inl rfl⟩
theorem refLevel_any(n from_:Nat)(hn:n≤4)(ax:from_≤1000000)(v:Value)(rs:List Rw)(hlen:rs.length≤1000000)(w:World)(hv:RR w v rs):
  Calls Tryz.prog 104 #[.int .i64 n,.int .i64 from_,v] w (GivesLv w (levelL n from_ rs)):=by
 have HV:=qH hv;obtain⟨A,c,rfl,_,_⟩:=rr_shape hv;have hL:levelL n from_ rs=(chunks rs).map fun cs=>(pagesF n cs,aboveF from_ cs):=rfl
 have HL:=qH hL;clear hv hL;go_enter Tryz.func104,Tryz.ntmps104;go_wp2
 go_loopw [2,9,10] (fun lv pv av wr=>∃(f:Nat) (cs:List (List Rw)) (rest:List Rw),RR w lv rest∧OP 5 46 wr w.heap.size pv (pagesF n cs)∧OR 5 78 wr w.heap.size av (aboveF from_ cs)∧Below w.heap.size w wr∧
   chunkF f cs rest=chunks rs∧rest.length≤f∧(cs= []→rest.length+1≤f)∧cs.length+rest.length≤rs.length+1)
  (fun lv pv _ _=>vlen lv+(1-vlen pv))
 case atStart=>exact⟨rs.length+1,[],rs,HV.out,OP.nil_ _ _ _ _,OR.nil_ _ _ _ _,Below.refl _ _,rfl,by omega,fun _=>Nat.le_refl _,by simp⟩
 case round=>
  obtain⟨f,cs,rest,iM,hop,aH,ad,hch,cJ,hf2,hcl⟩:=hrel;obtain⟨Wo,iB⟩:∃x,x=wr:=⟨_,rfl⟩
  subst iB;obtain⟨Al,cl,rfl,hlc,fK⟩:=rr_shape iM;obtain⟨Ap,cp,rfl,yb,hpc⟩:=hop.shape;obtain⟨Aa,ca,rfl⟩:=or_shape aH;have hpl:=pages_len (n:Int) cs;have hal:=above_len from_ cs;have hsz:=ad.size;rw[hpl] at hpc⊢;rw[hal];have bQ:=qH iM;have bU:=qH hop;have ct:=qH aH;have HB:=qH ad;have nZ:=qH hch;have cW:=qH hpl;have ix:=qH hal;clear iM hop aH ad hch hpl hal;by_cases hend:rest= []∧cs≠ []
  ·obtain⟨rfl,hne⟩:=hend
   have IK:0<cs.length:=List.length_pos_iff.2 hne;have hc0:((cs.length:Int)==0)=false:=by rw[beq_eq_false_iff_ne];omega
   have E:=qH (show levelL n from_ rs=some (pagesF n cs,aboveF from_ cs) by rw[HL.out,←nZ.out,chunk_end f hne];rfl);clear nZ HL cJ hf2;rw[List.length_nil] at *;go_wp2
   go_ret3
   exact GivesLv.some_ E.out (by have:=bU.out;rw[cW.out] at this;exact this) (by have:=ct.out;rw[ix.out] at this;exact this) HB.out
  ·obtain⟨K,hK⟩:∃K,K=fitN rest:=⟨_,rfl⟩
   have eC:=rr_below bQ.out HB.out (Nat.le_refl _);have hfit:=refFit_any _ rest Wo eC;have Bh:=fitN_le rest;rw[←hK] at hfit Bh;have hok:=ok_fit (lev:=(n:Int)) (by omega) (by omega) rest;rw[←hK] at hok;have jl:=encL_length hok;have henc:=fun W v h=>refEnc_any (n:Int) v (rest.take K) W h
   unfold GivesEnc at henc;rw[hok,jl] at henc;have hnew:=pages_snoc (n:Int) cs (rest.take K);have kg:=above_snoc from_ cs (rest.take K);have hrt:=fun(W:World) (h:RR W (.slice Al rest.length cl) rest)=>rr_take h Bh
   obtain⟨pg,ia⟩:∃pg,pg=encL (n:Int) (rest.take K):=⟨_,rfl⟩
   rw[←ia] at henc hnew jl;have F2:=qH henc;have cA:=qH hnew;have dj:=qH kg;have gc:=qH hrt;have eA:=qH hfit;have qM:=qH jl;have hfc:from_+cs.length≤9007199254740992:=by omega
   have rM:clip ((from_:Int)+(cs.length:Int))=from_+cs.length:=by unfold clip;omega
   have lz:=qH rM;clear hfit hok jl henc hnew kg hrt ia rM;by_cases fl:rest= []
   ·have hcs:cs= []:=by
     by_cases h2:cs= []
     ·exact h2
     ·exact(hend ⟨fl,h2⟩).elim
    subst hcs;subst fl;obtain rfl:K=0:=by rw[hK];rfl
    have E:=qH (show chunks rs=some [[]] by
     rw[←nZ.out];obtain⟨f',rfl⟩:∃f',f=f'+1:=⟨f-1,by have:=hf2 rfl;omega⟩
     exact chunk_first f')
    have yj:(((0:Nat):Int)==0)=true:=by rfl
    have HK:=qH hK;rw[List.length_nil] at *;clear hK nZ;go_wp2_with fail
    refine eA.out.mono ?_;rintro e w2⟨rfl,hb2⟩;have ae:=qH (HB.out.trans (hb2.mono hsz));have dq:=qH (rr_below bQ.out (HB.out.trans (hb2.mono hsz)) (Nat.le_refl _));have iG:=qH (bU.out.below hb2);have dS:=qH (ct.out.below hb2);clear hb2 bU ct eA eC;go_wp2_with fail
    refine(F2.out _ _ (gc.out _ dq.out)).mono ?_;rintro e w3⟨v3,rfl,cX,hb3⟩;have oH:=qH (FB.own (show w3.ownsRow w2.heap.size 5 1 v3 pg.length (bvs pg) by rw[qM.out];exact cX));obtain⟨A3,c3,rfl,_⟩:=own_shape cX;have aj:=qH (ae.out.trans (hb3.mono ae.out.size));have bM:=qH (rr_below dq.out hb3 (Nat.le_refl _));have m7:=qH (iG.out.below hb3);have kP:=qH (dS.out.below hb3);clear cX hb3 dq iG dS;go_wp2_with fail
    refine(refNum_any _ _).mono ?_;rintro e w4⟨v4,rfl,bD,hb4⟩;rw[show clip (from_:Int)=from_+0 from by unfold clip;omega] at bD;have iA:=qH (FB.own bD);obtain⟨A4,c4,rfl,_⟩:=own_shape bD;have aq:Below w.heap.size w w4:=aj.out.trans (hb4.mono aj.out.size);have i9:=qH (rr_below bM.out hb4 (Nat.le_refl _));have jF:=qH (m7.out.below hb4);have jG:=qH (oH.out.below hb4);have fE:=(kP.out.below hb4).alloc (Obj.cells #[.string ⟨#[]⟩,.slice A4 (numL (from_+0)).length c4] 78);have dr:=(iA.out.base_ (base':=w.heap.size) aj.out.size).below ((Below.refl _ _).alloc (Nat.le_refl _) (Obj.cells #[.string ⟨#[]⟩,.slice A4 (numL (from_+0)).length c4] 78));have aA:=aq.alloc aq.size (Obj.cells #[.string ⟨#[]⟩,.slice A4 (numL (from_+0)).length c4] 78);obtain⟨us,ag,ho,bA⟩:=fE;have jZ:=qH (show us.length=0 by have h:=congrArg List.length ag;rw[List.length_map,ix.out] at h;exact h);have bZ:=qH ag;have jJ:=aq.size;rw[ix.out] at ho;clear bD hb4 ag iA bM m7 kP oH;go_wp2_with (at_builtin;refine wpList_own rfl (.tmp 50) (.tmp 58) 40 40 rfl w.heap.size 78 (.agg #[.string ⟨#[]⟩,.slice none 0 0]) 2 40 Tryz.underlying40 info78 rfl rfl ho rfl (src_two _ (by simp) Tryz.underlying40 78 _ _ rfl rfl) aA (Nat.le_refl _) ?_ ?_ ?_ ?_)
    ·have:=jZ.out;unfold maxLen;omega
    ·have:=jZ.out;omega
    ·simp;omega
    intro v5 w5 aJ hb5' hg5;have iK:=OR.push (by decide) ho bA dr aJ hg5;rw[bZ.out] at iK;have nA:=(jF.out.alloc (Obj.cells #[.string ⟨#[]⟩,.slice A4 (numL (from_+0)).length c4] 78)).grown ho (by decide) (by decide) hg5;have ic:=(jG.out.below ((Below.refl _ _).alloc (Nat.le_refl _) (Obj.cells #[.string ⟨#[]⟩,.slice A4 (numL (from_+0)).length c4] 78))).grown ho (by decide) hg5;have fC:=iK.alloc (Obj.cells #[.slice A3 256 c3] 46);have oA:=nA.alloc (Obj.cells #[.slice A3 256 c3] 46);have oM:=(ic.base_ (base':=w.heap.size) ae.out.size).below ((Below.refl _ _).alloc (Nat.le_refl _) (Obj.cells #[.slice A3 256 c3] 46));have bV:=hb5'.alloc hb5'.size (Obj.cells #[.slice A3 256 c3] 46);have F6:=hb5'.size;obtain⟨up,hup,hpo,dO⟩:=oA;have jf:=qH (show up.length=0 by have h:=congrArg List.length hup;rw[List.length_map,cW.out] at h;exact h);have ll:=qH hup;have on:=qH fC;rw[cW.out] at hpo;clear ho bA dr aJ hb5' hg5 iK nA ic fC hup jF jG aA;go_wp2_with (at_builtin;refine wpList_own rfl (.tmp 60) (.tmp 62) 26 26 rfl w.heap.size 46 (.slice none 0 0) 1 24 Tryz.underlying26 info46 rfl rfl hpo rfl (src_one _ Tryz.underlying26 46 _ rfl) bV (Nat.le_refl _) ?_ ?_ ?_ ?_)
    ·have:=jf.out;unfold maxLen;omega
    ·have:=jf.out;omega
    ·simp;omega
    intro v6 w6 dE au hg6;have ef:=OP.push (by decide) hpo dO oM dE hg6;rw[ll.out] at ef;have oX:=or_grown on.out hpo (by decide) (by decide) hg6;have ji:=qH ef;have uA:=qH oX;have aG:=qH au;clear hpo dO oM dE au hg6 ef oX bV on;obtain⟨Av,cv,yB,_,_⟩:=ji.out.shape;have FP:(pagesF (n:Int) []++ [pg]).length=1:=rfl;rw[FP] at yB;have GG:pagesF (n:Int) [[]]=pagesF (n:Int) []++ [pg]:=cA.out;have yU:aboveF from_ [[]]=aboveF from_ []++ [(⟨#[]⟩,numL (from_+0))]:=dj.out;have t7:=qH GG;have FM:=qH yU;have hcm:cl≤maxLen:=by unfold maxLen;omega
    clear GG yU;go_wp2;go_roundw
    case rel=>
     refine⟨0,[[]],[],rr_empty _ _ (by first|exact hcm|(simp;done)|(unfold maxLen;omega)),by rw[t7.out];exact ji.out,by rw[FM.out];exact uA.out,aG.out,?_,Nat.le_refl _,fun h=>by simp at h,by simp⟩;rw[chunk_end 0 (by simp)];exact E.out.symm
    case measure=>
     rw[yB];simp[vlen]
   ·have hrl:0<rest.length:=List.length_pos_iff.2 fl
    have J3:(0:Int)<(rest.length:Int):=by omega
    by_cases hK0:K=0
    ·subst hK0
     have E:=qH (show levelL n from_ rs=none by
      rw[HL.out,←nZ.out];obtain⟨f',rfl⟩:∃f',f=f'+1:=⟨f-1,by omega⟩
      rw[chunk_none fl (by omega)];rfl)
     have yj:(((0:Nat):Int)==0)=true:=by rfl
     have HK:=qH hK;clear hK;clear nZ HL cJ hf2 cA dj;go_wp2_with fail
     refine eA.out.mono ?_;rintro e w2⟨rfl,hb2⟩;have ae:=qH (HB.out.trans (hb2.mono hsz));have dq:=qH (rr_below bQ.out (HB.out.trans (hb2.mono hsz)) (Nat.le_refl _));clear hb2;go_wp2_with fail
     refine(F2.out _ _ (gc.out _ dq.out)).mono ?_;rintro e w3⟨v3,rfl,cX,hb3⟩;obtain⟨A3,c3,rfl,_⟩:=own_shape cX;have aj:=qH (ae.out.trans (hb3.mono ae.out.size));clear cX hb3;go_wp2
     go_ret3
     exact GivesLv.none_ E.out aj.out
    ·obtain⟨b,off,u,rfl,hx0,_,_⟩:=rr_at bQ.out hrl
     have hb0:=rr_block bQ.out hrl;have hb:b<Wo.heap.size:=Nat.lt_of_lt_of_le hb0 hsz;rw[Nat.zero_mul,Nat.add_zero] at hx0
     replace hx0:=(HB.out.cell (p:=⟨b,off,none⟩) hb0).trans hx0
     have hkey:headKey (rest.take K)=(rest[0]'hrl).1:=by
      obtain⟨k',rfl⟩:∃k',K=k'+1:=⟨K-1,by omega⟩
      cases rest with
      |nil=>simp at hrl
      |cons r t=>rfl
     obtain⟨ky,mD⟩:∃ky,ky=(rest[0]'hrl).1:=⟨_,rfl⟩
     rw[←mD] at hkey hx0;have HKEY:=qH hkey;have yj:((K:Int)==0)=false:=by rw[beq_eq_false_iff_ne];omega
     have HK:=qH hK;have IP:(0:Int)<(K:Int):=by omega
     have E:=qH (show chunkF (f-1) (cs++ [rest.take K]) (rest.drop K)=chunks rs by
      rw[←nZ.out];obtain⟨f',rfl⟩:∃f',f=f'+1:=⟨f-1,by omega⟩
      rw[chunk_more fl (by omega),←hK];rfl)
     clear mD hkey nZ hK hK0;go_wp2_with fail
     refine eA.out.mono ?_;rintro e w2⟨rfl,hb2⟩;have ae:=qH (HB.out.trans (hb2.mono hsz));have dq:=qH (rr_below bQ.out (HB.out.trans (hb2.mono hsz)) (Nat.le_refl _));have iG:=qH (bU.out.below hb2);have dS:=qH (ct.out.below hb2);have hx2:=(hb2.cell (p:=⟨b,off,none⟩) hb).trans hx0;have bg:b<w2.heap.size:=Nat.lt_of_lt_of_le hb hb2.size;clear hb2 bU ct eA hx0 eC;go_wp2_with fail
     refine(F2.out _ _ (gc.out _ dq.out)).mono ?_;rintro e w3⟨v3,rfl,cX,hb3⟩;have oH:=qH (FB.own (show w3.ownsRow w2.heap.size 5 1 v3 pg.length (bvs pg) by rw[qM.out];exact cX));obtain⟨A3,c3,rfl,_⟩:=own_shape cX;have aj:=qH (ae.out.trans (hb3.mono ae.out.size));have bM:=qH (rr_below dq.out hb3 (Nat.le_refl _));have m7:=qH (iG.out.below hb3);have kP:=qH (dS.out.below hb3);have hx3:=(hb3.cell (p:=⟨b,off,none⟩) bg).trans hx2;clear cX hb3 dq iG dS hx2;go_wp2_with fail
     refine(refNum_any _ _).mono ?_;rintro e w4⟨v4,rfl,bD,hb4⟩;rw[lz.out] at bD;have iA:=qH (FB.own bD);obtain⟨A4,c4,rfl,_⟩:=own_shape bD;have aq:Below w.heap.size w w4:=aj.out.trans (hb4.mono aj.out.size);have i9:=qH (rr_below bM.out hb4 (Nat.le_refl _));have jF:=qH (m7.out.below hb4);have jG:=qH (oH.out.below hb4);have fE:=(kP.out.below hb4).alloc (Obj.cells #[.string ky,.slice A4 (numL (from_+cs.length)).length c4] 78);have dr:=(iA.out.base_ (base':=w.heap.size) aj.out.size).below ((Below.refl _ _).alloc (Nat.le_refl _) (Obj.cells #[.string ky,.slice A4 (numL (from_+cs.length)).length c4] 78));have aA:=aq.alloc aq.size (Obj.cells #[.string ky,.slice A4 (numL (from_+cs.length)).length c4] 78);obtain⟨us,ag,ho,bA⟩:=fE;have jZ:=qH (show us.length=cs.length by have h:=congrArg List.length ag;rw[List.length_map,ix.out] at h;exact h);have bZ:=qH ag;have jJ:=aq.size;rw[ix.out] at ho;clear bD hb4 ag iA bM m7 kP oH hx3;go_wp2_with (at_builtin;refine wpList_own rfl (.tmp 50) (.tmp 58) 40 40 rfl w.heap.size 78 (.agg #[.string ⟨#[]⟩,.slice none 0 0]) 2 40 Tryz.underlying40 info78 rfl rfl ho rfl (src_two _ (by simp) Tryz.underlying40 78 _ _ rfl rfl) aA (Nat.le_refl _) ?_ ?_ ?_ ?_)
     ·have:=jZ.out;unfold maxLen;omega
     ·have:=jZ.out;omega
     ·simp;omega
     intro v5 w5 aJ hb5' hg5;have iK:=OR.push (by decide) ho bA dr aJ hg5;rw[bZ.out] at iK;have nA:=(jF.out.alloc (Obj.cells #[.string ky,.slice A4 (numL (from_+cs.length)).length c4] 78)).grown ho (by decide) (by decide) hg5;have ic:=(jG.out.below ((Below.refl _ _).alloc (Nat.le_refl _) (Obj.cells #[.string ky,.slice A4 (numL (from_+cs.length)).length c4] 78))).grown ho (by decide) hg5;have fC:=iK.alloc (Obj.cells #[.slice A3 256 c3] 46);have oA:=nA.alloc (Obj.cells #[.slice A3 256 c3] 46);have oM:=(ic.base_ (base':=w.heap.size) ae.out.size).below ((Below.refl _ _).alloc (Nat.le_refl _) (Obj.cells #[.slice A3 256 c3] 46));have bV:=hb5'.alloc hb5'.size (Obj.cells #[.slice A3 256 c3] 46);have F6:=hb5'.size;obtain⟨up,hup,hpo,dO⟩:=oA;have jf:=qH (show up.length=cs.length by have h:=congrArg List.length hup;rw[List.length_map,cW.out] at h;exact h);have ll:=qH hup;have on:=qH fC;rw[cW.out] at hpo;clear ho bA dr aJ hb5' hg5 iK nA ic fC hup jF jG aA;go_wp2_with (at_builtin;refine wpList_own rfl (.tmp 60) (.tmp 62) 26 26 rfl w.heap.size 46 (.slice none 0 0) 1 24 Tryz.underlying26 info46 rfl rfl hpo rfl (src_one _ Tryz.underlying26 46 _ rfl) bV (Nat.le_refl _) ?_ ?_ ?_ ?_)
     ·have:=jf.out;unfold maxLen;omega
     ·have:=jf.out;omega
     ·simp;omega
     intro v6 w6 dE au hg6;have ef:=OP.push (by decide) hpo dO oM dE hg6;rw[ll.out] at ef;have oX:=or_grown on.out hpo (by decide) (by decide) hg6;have ji:=qH ef;have uA:=qH oX;have aG:=qH au;clear hpo dO oM dE au hg6 ef oX bV on;have MN:(K:Int)≤(cl:Int):=by omega
     have Ln:(K:Int)≤(rest.length:Int):=by omega
     obtain⟨Av,cv,yB,_,_⟩:=ji.out.shape;have FP:(pagesF (n:Int) cs++ [pg]).length=cs.length+1:=by rw[List.length_append,cW.out];rfl
     rw[FP] at yB;go_wp2;go_roundw
     case rel=>
      refine⟨f-1,cs++ [rest.take K],rest.drop K,?_,by rw[cA.out];exact ji.out,by rw[dj.out,HKEY.out];exact uA.out,aG.out,E.out,by rw[List.length_drop];omega,fun h=>by simp at h,by rw[List.length_drop,List.length_append];simp;omega⟩;by_cases cP:cl=K
      ·rw[if_pos cP,List.drop_eq_nil_of_le (by omega),show rest.length-K=0 from by omega]
       exact rr_empty _ _ (by unfold maxLen;omega)
      ·rw[if_neg cP]
       exact rr_drop bQ.out (by omega)
     case measure=>
      rw[yB];simp[vlen];omega
end Go.Proofs.YtmbkaedhllfoeaaGreat
namespace Go.Pg
theorem chunk_len:∀(f:Nat) (cs:List (List Rw)) (l:List Rw) (r:List (List Rw)),chunkF f cs l=some r→r.length≤cs.length+l.length+(if cs= [] then 1 else 0)
 |0,cs,l,r,h=>by
  rw[chunkF] at h;injection h with h;rw[←h];omega
 |f+1,cs,l,r,h=>by
  rw[chunkF] at h;split at h
  ·injection h with h
   rw[←h];omega
  ·split at h
   ·cases h
   ·rename_i h1 h2
    have:=chunk_len f _ _ _ h;rw[List.length_append,List.length_drop,if_neg (by simp)] at this;have hle:=fitN_le l;simp only[List.length_cons,List.length_nil] at this;by_cases hl:l= []
    ·subst hl
     have hc:cs= []:=by
      by_cases hc:cs= []
      ·exact hc
      ·exact(h1 ⟨rfl,hc⟩).elim
     rw[if_pos hc];omega
    ·have hp:0<fitN l:=by
      rcases Nat.eq_zero_or_pos (fitN l) with h0|h0
      ·exact(h2 ⟨h0,hl⟩).elim
      ·exact h0
     omega
theorem level_len{n:Int}{from_:Nat}{l:List Rw}{p:List (List UInt8)}{a:List Rw}(h:levelL n from_ l=some (p,a)):p.length≤l.length+1∧a.length≤l.length+1:=by
 unfold levelL at h
 cases hc:chunks l with
 |none=>rw[hc] at h;cases h
 |some cs=>
  rw[hc] at h;injection h with h;injection h with h1 h2;have:=chunk_len _ _ _ _ hc;rw[←h1,←h2,pages_len,above_len]
  simpa using this
theorem build_step(f n:Nat)(all:List (List UInt8))(l:List Rw):buildF (f+1) n all l=match levelL n all.length l with
  |none=>none
  |some (p,a)=>if p.length=1 then some (all++p) else buildF f (n+1) (all++p) a:=by
 rw[buildF];rfl
end Go.Pg
namespace Go.Proofs.YtmbkaedhllfoeaaGreat
open Go.RowKit Go.Rst Go.Pg Go.Crc
def GivesBd(w:World)(r:Option (List (List UInt8)))(e:Ending)(w':World):Prop:=
 ∃p,e= .returned (.tuple #[p,.bool r.isSome])∧OP 5 46 w' w.heap.size p (r.getD [])∧Below w.heap.size w w'
theorem GivesBd.none_{w w':World}{r:Option (List (List UInt8))}(h:r=none)(hb:Below w.heap.size w w'):GivesBd w r (.returned (.tuple #[.slice none 0 0,.bool false])) w':=by
 subst h;exact⟨_,rfl,OP.nil_ _ _ _ _,hb⟩
theorem GivesBd.some_{w w':World}{r:Option (List (List UInt8))}{ps:List (List UInt8)}{p:Value}(h:r=some ps)(hp:OP 5 46 w' w.heap.size p ps)(hb:Below w.heap.size w w'):
  GivesBd w r (.returned (.tuple #[p,.bool true])) w':=by
 subst h;exact⟨_,rfl,hp,hb⟩
def Either(w wr:World)(v:Value)(rs:List Rw):Prop:=RR w v rs∨OR 5 78 wr w.heap.size v rs
theorem Either.rr{w wr:World}{v:Value}{rs:List Rw}(h:Either w wr v rs)(hb:Below w.heap.size w wr):RR wr v rs:=by
 rcases h with h|h
 ·exact rr_below h hb (Nat.le_refl _)
 ·exact h.rr
theorem refBuild_any(v:Value)(rs:List Rw)(w:World)(hv:RR w v rs):
  Calls Tryz.prog 58 #[v] w (GivesBd w (buildL rs)):=by
 have HV:=qH hv;have kp:=refRising_any v rs w hv;obtain⟨A,c,rfl,hlc,fK⟩:=rr_shape hv;have hB:buildL rs=if risingL rs=false∨5000<rs.length then none else buildF 5 0 [] rs:=rfl
 clear hv
 cases hr:risingL rs with
 |false=>
  rw[if_pos (.inl hr)] at hB;rw[hr] at kp;have HB:=qH hB;have rZ:=qH kp;clear hB kp hr;go_enter Tryz.func58,Tryz.ntmps58;go_wp2_with fail
  refine rZ.out.mono ?_;rintro e w1⟨rfl,ad⟩;have al:=qH ad;clear ad;go_wp2
  go_ret2
  exact GivesBd.none_ HB.out al.out
 |true=>
  rw[hr] at kp;have rZ:=qH kp;by_cases hbig:5000<rs.length
  ·rw[if_pos (.inr hbig)] at hB
   have HB:=qH hB;have cI:(5000:Int)<(rs.length:Int):=by omega
   clear hB kp hr;go_enter Tryz.func58,Tryz.ntmps58;go_wp2_with fail
   refine rZ.out.mono ?_;rintro e w1⟨rfl,ad⟩;have al:=qH ad;clear ad;go_wp2
   go_ret2
   exact GivesBd.none_ HB.out al.out
  ·rw[if_neg (by rw[hr];simp;omega)] at hB
   have bX:=qH hB;have cI:(rs.length:Int)≤5000:=by omega
   clear hB kp hr;go_enter Tryz.func58,Tryz.ntmps58;go_wp2_with fail
   refine rZ.out.mono ?_;rintro e w1⟨rfl,ad⟩;have al:=qH ad;clear ad;go_wp2
   go_loopw [0,4,5] (fun lv av i wr=>∃(k:Nat) (all:List (List UInt8)) (rest:List Rw),k≤5∧i= .int .i64 k∧OP 5 46 wr w.heap.size av all∧Either w wr lv rest∧Below w.heap.size w wr∧
     buildF (5-k) k all rest=buildF 5 0 [] rs∧rest.length≤5000+k∧all.length≤k*6000)
    (fun _ _ i _=>5-(intOf i).toNat)
   case atStart=>exact⟨0,[],rs,by omega,rfl,OP.nil_ _ _ _ _,.inl HV.out,al.out,rfl,by omega,by simp⟩
   case round=>
    obtain⟨k,all,rest,hk,rfl,hop,pV,ad,dK,hrl,hall⟩:=hrel;obtain⟨Wo,iB⟩:∃x,x=wr:=⟨_,rfl⟩
    subst iB;have iM:=pV.rr ad;obtain⟨Al,cl,rfl,_,_⟩:=rr_shape iM;obtain⟨Ap,cp,rfl,yb,hpc⟩:=hop.shape;have bU:=qH hop;have HB:=qH ad;have hsz:=ad.size;clear al;by_cases hlt:k<5
    ·have dU:=refLevel_any k all.length (by omega) (by omega) _ rest (by omega) Wo iM
     rw[show 5-k=(4-k)+1 from by omega,build_step] at dK
     cases hlv:levelL (k:Int) all.length rest with
     |none=>
      rw[hlv] at dU dK;have E:=qH (show buildL rs=none by rw[bX.out,←dK]);have sX:=qH dU;clear dU dK hop pV ad iM;go_wp2_with fail
      refine sX.out.mono ?_;rintro e w2⟨p,a,rfl,hp2,ha2,hb2⟩;obtain⟨A2,c2,rfl,_,_⟩:=hp2.shape;obtain⟨A3,c3,rfl⟩:=or_shape ha2;have ae:=qH (HB.out.trans (hb2.mono hsz));clear hp2 ha2 hb2;go_wp2
      go_ret2
      exact GivesBd.none_ E.out ae.out
     |some pa=>
      obtain⟨pp,aa⟩:=pa;have hll:=level_len hlv;rw[hlv] at dU dK;simp only[] at dK;have sX:=qH dU;have iw:=qH dK;have B8:=qH pV;clear dU dK hop pV ad iM;go_wp2_with fail
      refine sX.out.mono ?_;rintro e w2⟨p,a,rfl,hp2,ha2,hb2⟩;have hp2:OP 5 46 w2 Wo.heap.size p pp:=hp2;have ha2:OR 5 78 w2 Wo.heap.size a aa:=ha2;obtain⟨A2,c2,rfl,hc2,De⟩:=hp2.shape;obtain⟨A3,c3,rfl⟩:=or_shape ha2;have af:Below w.heap.size w w2:=HB.out.trans (hb2.mono hsz);have qa:=bU.out.below hb2;obtain⟨us,ag,ho,hf⟩:=qa;obtain⟨us2,du,aP,hf2⟩:=hp2.base_ (base':=w.heap.size) hsz;have eY:us.length=all.length:=by rw[←ag,List.length_map]
      have gA:us2.length=pp.length:=by rw[←du,List.length_map]
      have hone:∀x∈us2,x.2.oneCell'=true:=fun x hx=>fb_one (hf2 x hx)
      have hsrc:=OP.src (tx:=26) aP Tryz.underlying26 hone;rw[eY] at ho;have ho0:=ho;rw[gA] at hsrc;have cH:=qH hsrc;have bZ:=qH ag;have m3:=qH du;have bt:=qH eY;have nE:=qH gA;have HO:=qH ho;have ct:=qH (ha2.base_ (base':=w.heap.size) hsz);have ae:=qH af;clear hp2 ha2 hb2 aP ag du eY gA hsrc hone ho ho0 af;go_wp2_with (at_builtin;refine wpList_own rfl (.tmp 32) (.tmp 33) 26 26 rfl w.heap.size 46 (.slice none 0 0) 1 24 Tryz.underlying26 info46 rfl rfl HO.out rfl cH.out ae.out (Nat.le_refl _) ?_ ?_ ?_ ?_)
      ·unfold maxLen;omega
      ·omega
      ·exact ae.out.size
      intro v4 w4 bD hb4 hg4;have qh:=OP.join (e:=5) (eP:=46) (us:=us) (us2:=us2) (by decide) (by rw[bt.out];exact HO.out) hf hf2 (by rw[bt.out,nE.out];exact bD) hg4;rw[bZ.out,m3.out] at qh;have aM:=or_grown ct.out HO.out (by decide) (by decide) hg4;obtain⟨A4,c4,rfl,_,_⟩:=qh.shape;have jF:=qH qh;have nD:=qH aM;have ah:=qH hb4;clear qh aM hb4 hg4 bD hf hf2 HO cH bU;by_cases h1:pp.length=1
      ·have E:=qH (show buildL rs=some (all++pp) by rw[bX.out,←iw.out,if_pos h1])
       have h1':((pp.length:Int)==1)=true:=by rw[h1];rfl
       have H1:=qH h1;clear h1;go_wp2
       go_ret2
       exact GivesBd.some_ E.out jF.out ah.out
      ·have E:=qH (show buildF (4-k) (k+1) (all++pp) aa=buildF 5 0 [] rs by rw[←iw.out,if_neg h1])
       have h1':((pp.length:Int)==1)=false:=by rw[beq_eq_false_iff_ne];omega
       have H1:=qH h1;clear h1;go_wp2;go_roundw
       case rel=>exact⟨k+1,all++pp,aa,by omega,by go_num,jF.out,.inr nD.out,ah.out,by rw[show 5-(k+1)=4-k from by omega];exact E.out,by omega,by rw[List.length_append];omega⟩
       case measure=>simp[intOf];omega
    ·have e:k=5:=by omega
     subst e;rw[Nat.sub_self,buildF] at dK;have E:=qH (show buildL rs=none by rw[bX.out,←dK]);clear dK hop pV ad iM;go_wp2
     go_ret2
     exact GivesBd.none_ E.out HB.out
end Go.Proofs.YtmbkaedhllfoeaaGreat
namespace Go.Pg
open Go.Rst Go.Crc
def gsize(l:List Rw):Nat:=min (max (fitN l) 1) l.length
def groupsF:Nat→List Rw→List (List Rw)
 |0,_=> []
 |f+1,l=>l.take (gsize l)::(if l.length≤gsize l then [] else groupsF f (l.drop (gsize l)))
def groupsL(l:List Rw):List (List Rw):=groupsF (l.length+1) l
theorem gsize_le(l:List Rw):gsize l≤l.length:=Nat.min_le_right _ _
theorem gsize_pos{l:List Rw}(h:l≠ []):0<gsize l:=by
 have:=List.length_pos_iff.2 h;unfold gsize;omega
theorem groupsF_more:∀(f g:Nat) (l:List Rw),l.length<f→f≤g→groupsF g l=groupsF f l
 |0,_,_,h,_=>by omega
 |f+1,0,_,_,h=>by omega
 |f+1,g+1,l,h,hg=>by
  unfold groupsF;split
  ·rfl
  ·rename_i hl
   have h1:=gsize_le l;have h2:0<gsize l:=gsize_pos (fun e=>by subst e;simp at hl);rw[groupsF_more f g (l.drop (gsize l)) (by rw[List.length_drop];omega) (by omega)]
theorem groupsL_end{l:List Rw}(h:l.length≤gsize l):groupsL l= [l.take (gsize l)]:=by
 unfold groupsL groupsF;rw[if_pos h]
theorem groupsL_more{l:List Rw}(h:¬l.length≤gsize l):groupsL l=l.take (gsize l)::groupsL (l.drop (gsize l)):=by
 have h1:=gsize_le l;have h2:0<gsize l:=gsize_pos (fun e=>by subst e;simp at h);unfold groupsL;rw[groupsF,if_neg h,groupsF_more ((l.drop (gsize l)).length+1) l.length (l.drop (gsize l)) (by omega) (by rw[List.length_drop];omega)]
theorem groupsF_len:∀(f:Nat) (l:List Rw),(groupsF f l).length≤f
 |0,_=>Nat.le_refl _
 |f+1,l=>by
  unfold groupsF;split
  ·simp
  ·have:=groupsF_len f (l.drop (gsize l))
   simp only[List.length_cons];omega
theorem groupsL_len(l:List Rw):(groupsL l).length≤l.length+1:=groupsF_len _ _
theorem ok_none{lev:Int}{l:List Rw}(hl:l≠ [])(h0:fitN l=0):pageOk lev (l.take 1)=false:=by
 have h1:=fitN_take l 1;rw[h0] at h1;have h2:=List.length_pos_iff.2 hl;unfold pageOk;rw[decide_eq_false_iff_not];rintro⟨_,_,h⟩;rw[h1,List.length_take] at h;omega
theorem chunk_groups{lev:Int}(h0:0≤lev)(h4:lev≤4):∀(f:Nat) (cs:List (List Rw)) (l:List Rw),l.length<f→(cs= []∨l≠ [])→
  chunkF f cs l=if (groupsL l).all (pageOk lev) then some (cs++groupsL l) else none
 |0,_,_,h,_=>by omega
 |f+1,cs,l,h,hc=>by
  by_cases hl:l= []
  ·subst hl
   have hcs:cs= []:=by
    rcases hc with hc|hc
    ·exact hc
    ·exact(hc rfl).elim
   subst hcs;have hok:pageOk lev []=true:=by have:=ok_fit h0 h4 [];simpa using this
   rw[chunk_first,groupsL_end (by simp)];simp[hok]
  ·have M1:=List.length_pos_iff.2 hl
   by_cases hf:fitN l=0
   ·rw[chunk_none hl hf]
    have hg:gsize l=1:=by unfold gsize;omega
    have hno:(groupsL l).all (pageOk lev)=false:=by
     by_cases he:l.length≤gsize l
     ·rw[groupsL_end he,hg];simp[ok_none hl hf]
     ·rw[groupsL_more he,hg];simp[ok_none hl hf]
    rw[hno];rfl
   ·have Kd:0<fitN l:=by omega
    have hfl:=fitN_le l;have hg:gsize l=fitN l:=by unfold gsize;omega
    rw[chunk_more hl Kd];have hok:=ok_fit h0 h4 l;by_cases he:l.length≤gsize l
    ·rw[groupsL_end he,hg,List.drop_eq_nil_of_le (by omega),chunk_end _ (by simp)]
     simp[hok]
    ·rw[groupsL_more he,hg,chunk_groups h0 h4 f _ (l.drop (fitN l)) (by rw[List.length_drop];omega) (.inr (by
      intro e;have:=congrArg List.length e;rw[List.length_drop,List.length_nil] at this;omega))]
     simp[hok]
theorem level_groups{n:Nat}(hn:n≤4)(from_:Nat)(l:List Rw):
  levelL n from_ l=if (groupsL l).all (pageOk n) then some (pagesF n (groupsL l),aboveF from_ (groupsL l)) else none:=by
 unfold levelL chunks;rw[chunk_groups (lev:=(n:Int)) (by omega) (by omega) _ _ _ (Nat.lt_succ_self _) (.inl rfl)];split <;>simp
theorem groupsF_ne:∀(f:Nat) (l:List Rw),l≠ []→∀c∈groupsF f l,c≠ []
 |0,_,_,c,h=>by cases h
 |f+1,l,hl,c,h=>by
  have h1:=gsize_pos hl;have h2:=List.length_pos_iff.2 hl;unfold groupsF at h;rcases List.mem_cons.1 h with rfl|h
  ·intro e
   have:=congrArg List.length e;rw[List.length_take,List.length_nil] at this;omega
  ·split at h
   ·cases h
   ·rename_i hn
    refine groupsF_ne f _ (fun e=>?_) c h;have:=congrArg List.length e;rw[List.length_drop,List.length_nil] at this;omega
theorem groups_ne{l:List Rw}(hl:l≠ []):∀c∈groupsL l,c≠ []:=groupsF_ne _ l hl
theorem groups_nil:groupsL []= [[]]:=rfl
theorem groups_pos(l:List Rw):1≤(groupsL l).length:=by unfold groupsL groupsF;simp
end Go.Pg
namespace Go.Pg
open Go.Rst Go.Crc
def rowsFT:List (List UInt8)→List Rw→List Rw×Nat
 | [],acc=>(acc,0)
 |p::ps,acc=>if (decR p).2.2≠0 then ([],(decR p).2.2) else rowsFT ps (if (decR p).1=0∧acc.length≤5000 then acc++(decR p).2.1 else acc)
def rowsT(ps:List (List UInt8)):List Rw×Nat:=
 if (rowsFT ps []).2≠0 then ([],(rowsFT ps []).2) else if buildL (rowsFT ps []).1=some ps then ((rowsFT ps []).1,0) else ([],11)
theorem decR_len(p:List UInt8):(decR p).2.1.length≤250:=by
 have hf:∀l:List Rw,pageOk ((p.getD 0 0).toNat:Int) l=true→l.length≤250:=by
  intro l h;unfold pageOk at h;simp only[decide_eq_true_eq] at h;have hx:∀(rs:List Rw) (left:Nat),fitF rs left≤left:=by
   intro rs
   induction rs with
   |nil=>intro left;exact Nat.zero_le _
   |cons r rs ih=>
    intro left;unfold fitF;have h1:=ih (left-rsz r);have h2:1≤rsz r:=by unfold rsz;omega
    split
    ·omega
    ·split
     ·omega
     ·omega
  have:=hx l 250;unfold fitN at h;omega
 unfold decR;split
 ·simp
 ·split
  ·simp
  ·split
   ·simp
   ·split
    ·rename_i h;exact hf _ h.1
    ·simp
end Go.Pg
namespace Go.Proofs.YtmbkaedhllfoeaaGreat
open Go.RowKit Go.Rst Go.Crc
theorem refRight_short(v:Value)(l:List UInt8)(w:World)(hv:RB w v l)(hl:l.length<4):
  Calls Tryz.prog 156 #[v] w fun e w'=>e= .returned (.bool (rightL l))∧Below w.heap.size w w':=by
 have hr:rightL l=false:=by unfold rightL;simp;intro h;omega
 rw[hr];obtain⟨A,c,rfl,_⟩:=hv;have hd:decide ((4:Int)≤(l.length:Int))=false:=by simp;omega
 go_enter Tryz.func156,Tryz.ntmps156;go_wp2
 go_quiet (fail)
 go_wp2;go_ret;exact⟨rfl,bel_drewN _ _⟩
theorem refRight_long(v:Value)(l:List UInt8)(w:World)(hv:RB w v l)(hl:4≤l.length)(hbig:l.length≤900000):
  Calls Tryz.prog 156 #[v] w fun e w'=>e= .returned (.bool (rightL l))∧Below w.heap.size w w':=by
 have hv0:=hv;obtain⟨A,c,rfl,h1,h2,_⟩:=hv;have hA:=hv0.head (n:=l.length-4) (by omega);have hr:rightL l=(sealL (l.take (l.length-4))==l):=by rw[rightL_ref];simp[hl]
 obtain⟨n,hn⟩:∃n,n=l.length-4:=⟨_,rfl⟩
 obtain⟨m,hm⟩:∃m,m=l.length:=⟨_,rfl⟩
 rw[←hn] at hA hr;have uX:(l.take n).length≤1000000:=by rw[List.length_take];omega
 rw[←hm] at h1 hl hn hv0⊢;obtain rfl:m=n+4:=by omega
 rw[hr];generalize l.take n=la at *;have h3:(0:Int)≤(n:Int):=by omega
 have h4:(n:Int)≤(n:Int)+4:=by omega
 have h6:(n:Int)≤(c:Int):=by omega
 have h7:(4:Int)≤(n:Int)+4:=by omega
 have HV:=qH hv0;have HA:=qH hA;clear hm hn hA hv0 hr hbig;simp only[maxLen] at h2;have hwr:IntKind.i64.wrap (n:Int)=(n:Int):=by rw[IntKind.wrap_i64];omega
 go_enter Tryz.func156,Tryz.ntmps156;go_wp2;refine wp_region_held_drew (S:=SB [w]) (by kernel_rfl) (SB.start _) (fun hHeld=>?_);refine tkC 0 ?_;refine tkC 1 ?_;refine tkC 2 ?_;refine tkC 3 ?_;refine tkC 4 ?_;refine tkC 5 ?_;refine tkC 6 ?_;refine tkC 7 ?_;refine tkC 8 ?_;refine tkC 11 ?_;refine tkA 12 (v:=?_) ?_ ?_;rotate_left
 ·intro W hSw;have hq:=str22 (HV.out.below (SB.b0 hSw));go_simp;try (with_reducible rfl)
 try simp only[Act.put,zA,zB,zC]
 refine rdA (rs:= [9]) ?_;refine arC (fun K hK=>?_);go_simp;refine(refSeal_any _ la _ (HA.out.below (SB.b0 hHeld)) uX).mono ?_;rintro x w1⟨v1,rfl,hown1,bF⟩;try (go_wp2_with fail)
 have ac:=SB.step hHeld bF;refine hK.out _ _ ?_ (fun _=>?_)
 ·exact ac
 clear hK K;try simp only[Act.put,zA,zB,zC]
 have hHeld:=SB.more ac;clear ac;refine wpAnyH_more (S':=SB [w1,w]) (fun W h=>SB.less W h) _ _ _ _ ?_;refine tkA 10 (v:=?_) ?_ ?_;rotate_left
 ·intro W hSw;have hq:=str22 ((RB.own hown1).below (SB.b0 hSw));go_simp;try (with_reducible rfl)
 try simp only[Act.put,zA,zB,zC]
 refine tkC 13 ?_;refine tkC 14 ?_;refine tkC 15 ?_;refine wpAnyH_done (by kernel_rfl) ?_ _;go_wp2;go_ret;exact⟨rfl,SB.b1 hHeld⟩
theorem refRight_any(v:Value)(l:List UInt8)(w:World)(hv:RB w v l)(hbig:l.length≤900000):
  Calls Tryz.prog 156 #[v] w fun e w'=>e= .returned (.bool (rightL l))∧Below w.heap.size w w':=by
 by_cases h:l.length<4
 ·exact refRight_short v l w hv h
 ·exact refRight_long v l w hv (by omega) hbig
open Go.RowKit Go.Rst Go.Pg Go.Crc
def GivesRD(w:World)(r:Nat×List Rw×Nat)(e:Ending)(w':World):Prop:=
 ∃v,e= .returned (.tuple #[.int .i64 r.1,v,.int .i64 r.2.2])∧OR 5 78 w' w.heap.size v r.2.1∧Below w.heap.size w w'
theorem GivesRD.err{w w':World}{r:Nat×List Rw×Nat}{x:Nat}(h:r=(0,[],x))(hb:Below w.heap.size w w'):GivesRD w r (.returned (.tuple #[.int .i64 0,.slice none 0 0,.int .i64 x])) w':=by
 subst h;exact⟨_,rfl,OR.nil_ _ _ _ _,hb⟩
theorem GivesRD.ok{w w':World}{r:Nat×List Rw×Nat}{n:Nat}{rs:List Rw}{v:Value}(h:r=(n,rs,0))(ho:OR 5 78 w' w.heap.size v rs)(hb:Below w.heap.size w w'):GivesRD w r (.returned (.tuple #[.int .i64 n,v,.int .i64 0])) w':=by
 subst h;exact⟨_,rfl,ho,hb⟩
theorem refG_step(b:List UInt8){f n k e:Nat}(h:f=n-k)(hk:k<n)(acc:List Rw):refG b f k e acc=match refRow b k e with
  |none=>none
  |some (r,s)=>refG b (n-(k+1)) (k+1) s (acc++ [r]):=by
 rw[h,show n-k=(n-(k+1))+1 from by omega,refG];rfl
theorem refRow_lt{b:List UInt8}{i e:Nat}{r:Rw}{s:Nat}(h:refRow b i e=some (r,s)):s<e:=by
 unfold refRow at h;split at h
 ·cases h
 ·split at h
  ·cases h
  ·split at h
   ·cases h
   ·split at h
    ·injection h with h
     injection h with _ h;omega
    ·cases h
theorem refDec_any(v:Value)(l:List UInt8)(w:World)(hv:RB w v l):
  Calls Tryz.prog 132 #[v] w (GivesRD w (refDec l)):=by
 have HV:=qH hv;obtain⟨A,c,rfl,hlc,hc,_⟩:=hv;unfold maxLen at hc;have hD:refDec l=if l.length≠256 then (0,[],11) else if rightL l=false then (0,[],12) else match refRows l with
  |none=>(0,[],11)
  |some r=>if pageOk ((l.getD 0 0).toNat:Int) r=true∧encL ((l.getD 0 0).toNat:Int) r=l then ((l.getD 0 0).toNat,r,0) else (0,[],11):=rfl
 by_cases hl:l.length≠256
 ·rw[if_pos hl] at hD
  have HD:=qH hD;have hne:((l.length:Int) !=256)=true:=by simp;omega
  clear hD;go_enter Tryz.func132,Tryz.ntmps132;go_wp2
  go_ret3
  exact GivesRD.err HD.out (Below.refl _ _)
 ·rw[if_neg hl] at hD
  have hl2:l.length=256:=by omega
  have hne:((l.length:Int) !=256)=false:=by simp;omega
  have HL:=qH hl2;have AT:(1:Int)<(l.length:Int):=by omega
  have hright:=refRight_any _ l w HV.out (by omega)
  cases hrt:rightL l with
  |false=>
   rw[if_pos hrt] at hD;rw[hrt] at hright;have HD:=qH hD;have gc:=qH hright;clear hD hright hrt hl hl2;go_enter Tryz.func132,Tryz.ntmps132;go_wp2_with fail
   refine gc.out.mono ?_;rintro e w1⟨rfl,ad⟩;have HB:=qH ad;clear ad;go_wp2
   go_ret3
   exact GivesRD.err HD.out HB.out
  |true=>
   rw[if_neg (by rw[hrt];simp)] at hD;rw[hrt] at hright;have gc:=qH hright;obtain⟨b,off,rfl,hb,hc0⟩:=rb_cell HV.out (k:=0) (by omega);obtain⟨_,_,ig,_,hc1⟩:=rb_cell HV.out (k:=1) (by omega);injection ig with ig;injection ig with e1 e2 _;subst e1;subst e2;have hg0:l.getD 0 0=l[0]'(by omega):=by rw[List.getD_eq_getElem?_getD,List.getElem?_eq_getElem (by omega)];rfl
   have hg1:l.getD 1 0=l[1]'(by omega):=by rw[List.getD_eq_getElem?_getD,List.getElem?_eq_getElem (by omega)];rfl
   have dy:refRows l=refG l (l.getD 1 0).toNat 0 252 []:=rfl;rw[hg0] at hD;rw[hg1] at dy;obtain⟨x,hx⟩:∃x,x=l[0]'(by omega):=⟨_,rfl⟩
   obtain⟨x1,hx1⟩:∃x,x=l[1]'(by omega):=⟨_,rfl⟩
   rw[←hx] at hD hc0;rw[←hx1] at dy hc1;unfold bv at hc0 hc1;have uj:=x.toNat_lt;have tX:=x1.toNat_lt;obtain⟨lev,dU⟩:∃n,n=x.toNat:=⟨_,rfl⟩
   obtain⟨n,hn⟩:∃n,n=x1.toNat:=⟨_,rfl⟩
   rw[←dU] at hD hc0 uj;rw[←hn] at dy hc1 tX;rw[Nat.add_zero] at hc0;rw[dy] at hD;have HD:=qH hD;have mQ:=qH hc0;have hrow:=fun(i e:Nat) (hi:i≤255) (he:e≤252) W hW=>refRow_any (.slice (some ⟨b,off,none⟩) l.length c) l hl2 i e hi he W hW
   have Gi:=qH hrow;clear hright hrt hl hl2 hg0 hg1 hx hx1 dU hn dy hD hc0 hrow;go_enter Tryz.func132,Tryz.ntmps132;go_wp2_with fail
   refine gc.out.mono ?_;rintro e w1⟨rfl,ad⟩;have HB:=qH ad;clear ad;go_wp2
   go_loopw [5,6,7] (fun out en i wr=>∃(k e:Nat) (acc:List Rw),k≤n∧e≤252∧i= .int .i64 k∧en= .int .i64 e∧acc.length=k∧OR 5 78 wr w.heap.size out acc∧Below w.heap.size w wr∧refG l (n-k) k e acc=refG l n 0 252 [])
    (fun _ _ i _=>n-(intOf i).toNat)
   case atStart=>exact⟨0,252,[],Nat.zero_le _,Nat.le_refl _,rfl,rfl,rfl,OR.nil_ _ _ _ _,HB.out,rfl⟩
   case round=>
    obtain⟨k,e,acc,hk,he,rfl,rfl,hal,aH,ad,heq⟩:=hrel;have ix:=qH hal;have hsz:=ad.size;have fL:=(ad.cell (p:=⟨b,off+1,none⟩) hb).trans hc1;clear hal HB;by_cases hlt:k<n
    ·rw[refG_step l rfl hlt] at heq
     have hcall:=Gi.out k e (by omega) he wr (HV.out.below ad)
     cases hr:refRow l k e with
     |none=>
      rw[hr] at hcall heq;simp only[] at heq;have HC:=qH hcall;have hd:=HD.out;rw[←heq] at hd;have Bw:=qH (show refDec l=(0,[],11) from hd);have HB:=qH ad;clear hcall heq hr hd ad aH;go_wp2_with fail
      refine HC.out.mono ?_;rintro e' w2⟨kk,u,y,ul,rfl,dm,hb2,_⟩;obtain⟨Au,cu,rfl⟩:=dm.shape;have ae:=qH (HB.out.trans (hb2.mono hsz));have bk:=ae.out.size;clear dm hb2;go_wp2
      go_ret3
      exact GivesRD.err Bw.out (ae.out.alloc bk _)
     |some rs=>
      obtain⟨⟨rk,rv⟩,s⟩:=rs;have hs:=refRow_lt hr;rw[hr] at hcall heq;simp only[] at heq;have HC:=qH hcall;have HE:=qH heq;have HB:=qH ad;have HO:=qH aH;clear hcall heq hr ad aH;go_wp2_with fail
      refine HC.out.mono ?_;rintro e' w2⟨kk,u,y,ul,rfl,dm,hb2,hsp⟩;obtain⟨e1,e2,e3⟩:=hsp _ _ rfl;simp only[] at e1 e2;subst e1;subst e2;subst e3;obtain⟨Au,cu,rfl⟩:=dm.shape;have hb3:Below w.heap.size w w2:=HB.out.trans (hb2.mono hsz);have bz:=hb3.alloc hb3.size (Obj.cells #[.string kk,.slice Au ul.length cu] 78);have aA:=bz.alloc bz.size (Obj.cells #[.string kk,.slice Au ul.length cu] 78);have fE:=((HO.out.below hb2).alloc (Obj.cells #[.string kk,.slice Au ul.length cu] 78)).alloc (Obj.cells #[.string kk,.slice Au ul.length cu] 78);have dr:=((dm.base_ (base':=w.heap.size) hsz).below ((Below.refl _ _).alloc (Nat.le_refl _) (Obj.cells #[.string kk,.slice Au ul.length cu] 78))).below ((Below.refl _ _).alloc (Nat.le_refl _) (Obj.cells #[.string kk,.slice Au ul.length cu] 78));obtain⟨us,ag,ho,bA⟩:=fE;have jZ:=qH (show us.length=acc.length by rw[←ag,List.length_map]);have bZ:=qH ag;have bk:=hb3.size;clear dm hb2 hb3 bz ag HC hsp;go_wp2_with (at_builtin;refine wpList_own rfl (.tmp 37) (.tmp 39) 40 40 rfl w.heap.size 78 (.agg #[.string ⟨#[]⟩,.slice none 0 0]) 2 40 Tryz.underlying40 info78 rfl rfl ho rfl (src_two _ (by simp) Tryz.underlying40 78 _ _ rfl rfl) aA (Nat.le_refl _) ?_ ?_ ?_ ?_)
      ·have:=jZ.out;have:=ix.out;unfold maxLen;omega
      ·have:=jZ.out;have:=ix.out;omega
      ·simp;omega
      intro v' w4 ho' hb4 hg4;have aM:=OR.push (by decide) ho bA dr ho' hg4;rw[bZ.out] at aM;have jC:=qH aM;have ah:=qH hb4;clear ho bA dr ho' hg4 aM hb4;go_wp2;go_roundw
      case rel=>exact⟨k+1,s,_,by omega,by omega,by go_num,rfl,by rw[List.length_append,ix.out];rfl,jC.out,ah.out,HE.out⟩
      case measure=>simp[intOf];omega
    ·have ek:k=n:=by omega
     rw[ek,Nat.sub_self,refG] at heq;have hd:=HD.out;rw[←heq] at hd;simp only[] at hd;have hz0:=(ad.cell (p:=⟨b,off,none⟩) hb).trans mQ.out;have hE:∀W u,RR W u acc→_:=fun W u hu=>refEnc_any (lev:Int) u acc W hu
     have HE:=qH hE;have HB:=qH ad;have HO:=qH aH;obtain⟨A2,c2,rfl⟩:=or_shape aH;clear heq hE ad aH HD ek;have sa:=fun W hW=>str22 (w:=W) (v:= .slice (some ⟨b,off,none⟩) l.length c) (l:=l) hW
     have dX:=qH sa;clear sa
     cases hok:pageOk (lev:Int) acc with
     |false=>
      rw[if_neg (by rw[hok];simp)] at hd;have HD:=qH hd;have bm:=qH hok;clear hd hok;go_wp2_with fail
      refine(HE.out _ _ HO.out.rr).mono ?_;rintro e' w3⟨v3,rfl,cX,ad⟩;have aj:=qH (HB.out.trans (ad.mono HB.out.size));rw[bm.out];obtain⟨A3,c3,rfl,_⟩:=own_shape cX;clear ad cX;go_wp2
      go_ret3
      exact GivesRD.err HD.out aj.out
     |true=>
      have bm:=qH hok;have dV:(encL (lev:Int) acc==l)=decide (encL (lev:Int) acc=l):=by
       rw[Bool.eq_iff_iff];simp
      by_cases heq:encL (lev:Int) acc=l
      ·rw[if_pos ⟨hok,heq⟩] at hd
       rw[decide_eq_true heq] at dV;have HD:=qH hd;have es:=qH dV;clear hd hok dV heq;go_wp2_with fail
       refine(HE.out _ _ HO.out.rr).mono ?_;rintro e' w3⟨v3,rfl,cX,ad⟩;have aj:=qH (HB.out.trans (ad.mono HB.out.size));have j6:=qH (HO.out.below ad);have Cx:=str22 (RB.own cX);have kS:=dX.out _ (HV.out.below aj.out);have dV:=es.out;have hz3:=(aj.out.cell (p:=⟨b,off,none⟩) hb).trans mQ.out;rw[bm.out];obtain⟨A3,c3,rfl,_⟩:=own_shape cX;clear ad cX;go_wp2
       go_ret3
       exact GivesRD.ok HD.out j6.out aj.out
      ·rw[if_neg (fun h=>heq h.2)] at hd
       rw[decide_eq_false heq] at dV;have HD:=qH hd;have es:=qH dV;clear hd hok dV heq;go_wp2_with fail
       refine(HE.out _ _ HO.out.rr).mono ?_;rintro e' w3⟨v3,rfl,cX,ad⟩;have aj:=qH (HB.out.trans (ad.mono HB.out.size));have Cx:=str22 (RB.own cX);have kS:=dX.out _ (HV.out.below aj.out);have dV:=es.out;have hz3:=(aj.out.cell (p:=⟨b,off,none⟩) hb).trans mQ.out;rw[bm.out];obtain⟨A3,c3,rfl,_⟩:=own_shape cX;clear ad cX;go_wp2
       go_ret3
       exact GivesRD.err HD.out aj.out
end Go.Proofs.YtmbkaedhllfoeaaGreat
