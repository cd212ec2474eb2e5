/-
  Texts of the proof, put together.
-/
import Derived.Deep.QuietTactic
import Derived.BigQuiet
import Derived.Test.YtmbkaedhllfoeaaGreatKPD
import Derived.Test.YtmbkaedhllfoeaaGreatKPG
import Derived.Test.YtmbkaedhllfoeaaGreatKPWr
set_option maxRecDepth 100000
set_option maxHeartbeats 4000000
set_option linter.unusedVariables false
namespace Go.Proofs.YtmbkaedhllfoeaaGreat
open Go.RowKit Go.Rst Go.Pg Go.Crc
def PR(w:World)(g:Nat)(P:List UInt8):Prop:=P.length=252∧Blk w g 5 (bvs P).toArray
theorem PR.lt{w:World}{g:Nat}{P:List UInt8}(h:PR w g P):g<w.heap.size:=h.2.lt
theorem PR.start{w:World}{lev n:UInt8}{Z:List Value}(hZ:Z=bvs (List.replicate 252 0)):
  PR (w.alloc (.cells ((Z.toArray.setIfInBounds 0 (bv lev)).setIfInBounds 1 (bv n)) 5)) w.heap.size (pageA lev n [] []):=by
 subst hZ;refine⟨by rw[pageA_length (by simp)],?_⟩;have e2:bvs (List.replicate 252 (0:UInt8))=bv 0::bv 0::bvs (List.replicate 250 0):=by
  rw[show(252:Nat)=250+1+1 from rfl,List.replicate_succ,List.replicate_succ];rfl
 have e:(((bvs (List.replicate 252 0)).toArray.setIfInBounds 0 (bv lev)).setIfInBounds 1 (bv n))=(bvs (pageA lev n [] [])).toArray:=by
  rw[pageA_nil,e2,List.setIfInBounds_toArray,List.setIfInBounds_toArray,List.set_cons_zero,List.set_cons_succ,List.set_cons_zero];rfl
 rw[e];exact heap_alloc_new w _
theorem PR.below{B:Nat}{w w':World}{g:Nat}{P:List UInt8}(h:PR w g P)(hb:Below B w w')(hg:g<B):PR w' g P:=⟨h.1,h.2.below hb hg⟩
theorem PR.rb{w:World}{g:Nat}{P:List UInt8}(h:PR w g P):RB w (.slice (some ⟨g,0,none⟩) 252 252) P:=by
 refine⟨_,252,by rw[h.1],by rw[h.1];decide,by decide,.inr ⟨g,0,rfl,h.2.lt,fun j hj=>?_⟩⟩;rw[Nat.zero_add,h.2.cell,bva_get hj]
theorem PR.set_{w:World}{g:Nat}{P:List UInt8}(h:PR w g P)(k:Nat)(c:UInt8):PR (w.setCell ⟨g,k,none⟩ (bv c)) g (P.set k c):=by
 refine⟨by rw[List.length_set,h.1],?_⟩;have:=h.2.set_ k (bv c);have e:(bvs P).toArray.setIfInBounds k (bv c)=(bvs (P.set k c)).toArray:=by
  rw[List.setIfInBounds_toArray];unfold bvs;rw[←List.map_set]
 rw[e] at this;exact this
theorem PR.any{w:World}{g:Nat}{P:List UInt8}(h:PR w g P){k:Nat}(hk:k<252):∃x:UInt8,w.cell? ⟨g,k,none⟩=some (bv x):=
 ⟨_,(h.2.cell k).trans (bva_get (by rw[h.1];exact hk))⟩
theorem make252:∀w,(Instr.makeSlice 46 (.int .i64 252) (.int .i64 252)).run Tryz.prog w= .ok (.slice (some ⟨w.heap.size,0,none⟩) 252 252) (w.alloc (.cells (bvs (List.replicate 252 0)).toArray 5)):=fun _=>by kernel_rfl
theorem refEnc_low(lev:Int)(h:lev<0∨4<lev)(v:Value)(rs:List Rw)(w:World)(hv:RR w v rs):
  Calls Tryz.prog 137 #[.int .i64 lev,v] w (GivesEnc w lev rs):=by
 have E:=qH (show pageOk lev rs=false by unfold pageOk;simp;omega);obtain⟨A,c,rfl,hlc,hc,_⟩:=hv;rcases h with h|h
 ·go_enter Tryz.func137,Tryz.ntmps137
  go_wp2
  go_ret2
  exact GivesEnc.not E.out (Below.refl _ _)
 ·have h0:0≤lev:=by omega
  go_enter Tryz.func137,Tryz.ntmps137;go_wp2
  go_ret2
  exact GivesEnc.not E.out (Below.refl _ _)
theorem refEnc_full(lev:Int)(h0:0≤lev)(h4:lev≤4)(v:Value)(rs:List Rw)(hf:fitN rs<rs.length)(w:World)(hv:RR w v rs):
  Calls Tryz.prog 137 #[.int .i64 lev,v] w (GivesEnc w lev rs):=by
 have E:=qH (show pageOk lev rs=false by unfold pageOk;simp;omega);have hc:=refFit_any v rs w hv;obtain⟨A,c,rfl,_⟩:=hv;have hf':((fitN rs:Nat):Int)<(rs.length:Int):=by omega
 go_enter Tryz.func137,Tryz.ntmps137;go_wp2_with fail
 refine hc.mono ?_;rintro e w1⟨rfl,ad⟩;have HB:=qH ad;clear ad;go_wp2
 go_ret2
 exact GivesEnc.not E.out HB.out
theorem refEnc_fits(lev:Nat)(h4:lev≤4)(v:Value)(rs:List Rw)(hf:fitN rs=rs.length)(w:World)(hv:RR w v rs):
  Calls Tryz.prog 137 #[.int .i64 lev,v] w (GivesEnc w lev rs):=by
 have E:=qH (show pageOk lev rs=true by unfold pageOk;simp;omega);have hcall:=refFit_any v rs w hv;rw[hf] at hcall;obtain⟨ah,hok⟩:=(fitN_all rs).1 hf;have bq:=qH hok;have dq:rs.length+(body rs).length≤250:=ah;have ce:=qH ah;have HV:=qH hv;have hlen:rs.length≤250:=by omega
 obtain⟨A,c,rfl,_⟩:=hv;have hbl:=bv_nat (show lev<256 by omega);have qB:=bv_nat (show rs.length<256 by omega);obtain⟨Z,hZ⟩:∃Z,Z=bvs (List.replicate 252 0):=⟨_,rfl⟩
 have mk:=make252;rw[←hZ] at mk;have HZ:=qH hZ;have hz0:Z.toArray[0]? =some (.int .u8 0):=by rw[hZ];simp[bvs,bv]
 have hz1:Z.toArray[1]? =some (.int .u8 0):=by rw[hZ];simp[bvs,bv]
 obtain⟨ZA,DP⟩:∃ZA,ZA=Z.toArray:=⟨_,rfl⟩
 rw[←DP] at hz0 hz1 mk;have Ir:=qH DP;have fy:=qH hbl;have iW:=qH qB;clear hZ hbl qB hok ah dq hf DP;go_enter Tryz.func137,Tryz.ntmps137;go_wp2_with fail
 refine hcall.mono ?_;rintro e w1⟨rfl,ad⟩;have HB:=qH ad;have hsz1:=ad.size;clear ad hcall;go_wp2;have hP:PR (w1.alloc (.cells ((ZA.setIfInBounds 0 (.int .u8 lev)).setIfInBounds 1 (.int .u8 rs.length)) 5)) w1.heap.size (pageA (UInt8.ofNat lev) (UInt8.ofNat rs.length) [] []):=by
  rw[fy.out,iW.out,Ir.out];exact PR.start HZ.out
 have wu:Below w.heap.size w (w1.alloc (.cells ((ZA.setIfInBounds 0 (.int .u8 lev)).setIfInBounds 1 (.int .u8 rs.length)) 5)):=HB.out.alloc hsz1 _;obtain⟨H,hH⟩:∃H,H=w1.heap.size:=⟨_,rfl⟩
 rw[←hH] at hP⊢;have yo:w.heap.size≤H:=by omega
 have HH:=qH hH;have HP:=qH hP;have uq:=qH wu;clear hP wu hH mk hz0 hz1
 go_loopw [7,8] (fun at_ i wr=>∃k:Nat,k≤rs.length∧i= .int .i64 k∧(∃T:Nat,T+(body (rs.take k)).length=252∧at_= .int .i64 T)∧PR wr H (pageA (UInt8.ofNat lev) (UInt8.ofNat rs.length) (slots (rs.take k)) (body (rs.take k)))∧Below w.heap.size w wr)
  (fun _ i _=>rs.length-(intOf i).toNat)
 case atStart=>exact⟨0,Nat.zero_le _,rfl,⟨252,rfl,rfl⟩,HP.out,uq.out⟩
 case round=>
  obtain⟨k,hk,rfl,⟨T,hT,rfl⟩,hP,ad⟩:=hrel;have vy:=body_len k rs;have ah:=ce.out;have dq:rs.length+(body rs).length≤250:=ah;obtain⟨Wo,iq⟩:∃x,x=wr:=⟨_,rfl⟩
  subst iq;by_cases hlt:k<rs.length
  ·obtain⟨b,off,u,rfl,hx0,hy0,fl⟩:=rr_at HV.out hlt
   have hb:b<w.heap.size:=by
    obtain⟨A',c',he,_,_,h3⟩:=HV.out;injection he with e1 _ _;rcases h3 with rfl|⟨b',off',h4,h5,_⟩
    ·simp at hlt
    ·rw[h4] at e1;injection e1 with e1;injection e1 with e1 _ _;omega
   have hx:=(ad.cell (p:=⟨b,off+k*2,none⟩) hb).trans hx0;have hy:=(ad.cell (p:=⟨b,off+k*2+1,none⟩) hb).trans hy0;have bi:=fl.below ad;have hok:=bq.out rs[k] (List.getElem_mem hlt);have hb1:=body_take hlt;have hb2:=body_len (k+1) rs;have hst:=slots_take hlt;have hsl:=slots_length (rs.take k);rw[List.length_take,Nat.min_eq_left hk] at hsl;rw[hb1,List.length_append] at hb2;have gr:slot (rs.take (k+1))=UInt8.ofNat (252-((rowB rs[k]).length+(body (rs.take k)).length)):=by unfold slot;rw[hb1,List.length_append]
   rw[gr] at hst;have an:=qH hb1;have HST:=qH hst;generalize rs[k]=r at *;obtain⟨key,l⟩:=r;simp only[] at hx hy bi hok;obtain⟨A2,c2,rfl,g1,g2,_⟩:∃A2 c2,u= .slice A2 l.length c2∧l.length≤c2∧c2≤maxLen∧True:=by
    obtain⟨A2,c2,h,h1,h2,_⟩:=bi;exact⟨A2,c2,h,h1,h2,trivial⟩
   unfold maxLen at g2;generalize body (rs.take k)=bd at *;generalize slots (rs.take k)=ss at *;obtain⟨row,hrow⟩:∃row,row=rowB (key,l):=⟨_,rfl⟩
   rw[←hrow] at hb2 an HST gr;have jR:=rowB_pos (key,l);rw[←hrow] at jR;have hrow2:rowL key.data.toList l=row:=hrow.symm;have hkey:key.size≤30:=hok.1;have hval:l.length≤150:=hok.2;have hcall:=fun W hW=>refBytes_any key (.slice A2 l.length c2) l (by omega) (by omega) W hW
   rw[hrow2] at hcall;have HL:=qH hcall;have jY:=qH hP;have ae:=qH ad;have HR:=qH bi;have hsz:=ad.size;have CN:=hP.lt;clear hP ad bi hcall hrow hrow2 hb1 hst gr hx0 hy0 fl hok HP uq bq;go_wp2_with fail
   refine(HL.out _ HR.out).mono ?_;rintro e w2⟨v2,rfl,hown2,ag⟩;have hb3:Below w.heap.size w w2:=ae.out.trans (ag.mono hsz);have gC:PR w2 H _:=jY.out.below ag CN;have bZ:=RB.own hown2;obtain⟨b3,c3,rfl,hbb,Dz,BM⟩:=own_addr hown2 (by omega);obtain⟨R,hR⟩:∃R,R=row.length:=⟨_,rfl⟩
   have hne:b3≠H:=by omega
   obtain⟨Q,hQ⟩:∃Q,Q=T-R:=⟨_,rfl⟩
   have IE:(T:Int)-(R:Int)=(Q:Int):=by omega
   have In:Q+R+bd.length=252:=by omega
   have IT:(Q:Int)<256:=by omega
   have IN:(0:Int)≤(Q:Int):=by omega
   obtain⟨xb,hx2⟩:=gC.any (k:=2+k) (by omega);have hfz:=gC.2.frozen (2+k);have bQ:=gC.set_ (2+k) (UInt8.ofNat Q);rw[show 2+k=2+ss.length from by omega,pageA_slot _ (by omega),←pageA_zeros (m:=R) (by simp;omega)] at bQ;have tq:=bv_nat (show Q<256 by omega);have uD:=qH tq;have gh:=qH bQ;have ak:=qH hb3;have j1:=qH bZ;have bM:=qH hR;rw[←hR] at jR⊢;unfold bv at hx2;have GE:(R:Int)≤250:=by omega
   clear hown2 ag hb3 bZ gC jY hR hQ HL HR hx hy bQ tq;go_wp2
   go_loopw [10] (fun q wr=>∃j:Nat,j≤R∧q= .int .i64 j∧PR wr H (pageA (UInt8.ofNat lev) (UInt8.ofNat rs.length) (ss++ [UInt8.ofNat Q]) (row.take j++(List.replicate (R-j) 0++bd)))∧RB wr (.slice (some ⟨b3,0,none⟩) R c3) row∧Below w.heap.size w wr)
    (fun q _=>R-(intOf q).toNat)
   case atStart=>
    refine⟨0,Nat.zero_le _,rfl,?_,?_,?_⟩
    ·rw[uD.out]
     have:=gh.out;rw[show 2+ss.length=2+k from by omega] at this
     simpa using this
    ·rw[bM.out]
     exact rb_far j1.out hne _
    ·exact ak.out.setCell yo _
   case round=>
    obtain⟨j,hj,rfl,hP,bZ,ad⟩:=hrel;by_cases hjR:j<R
    ·have t6:=bZ
     rw[bM.out] at t6;obtain⟨b',o',he,_,hcell⟩:=rb_cell t6 (k:=j) (by have:=bM.out;omega);injection he with he;injection he with e1 e2 _;subst e1;subst e2;rw[Nat.zero_add] at hcell;obtain⟨xc,Dk⟩:=hP.any (k:=Q+j) (by omega);have Ip:=hP.2.frozen (Q+j);have tX:j<row.length:=by have:=bM.out;omega
     have hl:(row.take j++(List.replicate (R-j) 0++bd)).length=R+bd.length:=by
      have:=bM.out;simp;omega
     have bQ:=hP.set_ (Q+j) row[j];have e1:=pageA_set (lev:=UInt8.ofNat lev) (n:=UInt8.ofNat rs.length) (ss:=ss++ [UInt8.ofNat Q]) (bd:=row.take j++(List.replicate (R-j) 0++bd)) (q:=j) row[j] (by rw[hl];omega) (by have:=bM.out;rw[hl];simp;omega);have e2:=row_set (bd:=bd) tX;rw[←bM.out] at e2;rw[hl,show 252-(R+bd.length)+j=Q+j from by omega,e2] at e1;rw[e1] at bQ;clear e1 e2;have zz:=rb_far bZ (p:=⟨H,Q+j,none⟩) hne (bv row[j]);have hb2:=ad.setCell (p:=⟨H,Q+j,none⟩) yo (bv row[j]);generalize row[j]=y at *;have yl:=qH bQ;have CZ:=qH zz;have ai:=qH hb2;unfold bv at hcell Dk;clear t6 bQ zz hb2 hl hP bZ ad gh j1;go_wp2;go_roundw
     case rel=>exact⟨j+1,by omega,by go_num,yl.out,CZ.out,ai.out⟩
     case measure=>simp[intOf];omega
    ·have e:j=R:=by omega
     have BP:=hP;rw[e,Nat.sub_self,bM.out,List.take_length] at BP;have IX:=qH BP;have ai:=qH ad;clear hP BP bZ ad e gh j1;go_wp2;go_roundw
     case rel=>
      refine⟨k+1,by omega,by go_num,⟨Q,by rw[an.out,List.length_append,←bM.out];omega,rfl⟩,?_,ai.out⟩;rw[an.out,HST.out,←bM.out,show 252-(R+bd.length)=Q from by omega]
      simpa using IX.out
     case measure=>simp[intOf];omega
  ·have e:k=rs.length:=by omega
   rw[e,List.take_length] at hP;rw[page_end] at hP;have bZ:=hP.rb;have HR:=qH bZ;have ae:=qH ad;have hsz:=ad.size;have yS:=hP.1;clear hP ad e HP uq vy;go_wp2_with fail
   refine(refSeal_any _ _ _ HR.out (by omega)).mono ?_;rintro e w3⟨v3,rfl,hown,ad⟩;have HO:=qH (own_base hown hsz);have ak:=qH (ae.out.trans (ad.mono hsz));clear hown ad;go_wp2
   go_ret2
   exact GivesEnc.mk E.out (by simpa using HO.out) ak.out
theorem refEnc_any(lev:Int)(v:Value)(rs:List Rw)(w:World)(hv:RR w v rs):
  Calls Tryz.prog 137 #[.int .i64 lev,v] w (GivesEnc w lev rs):=by
 by_cases h:lev<0∨4<lev
 ·exact refEnc_low lev h v rs w hv
 ·obtain⟨n,rfl⟩:=Int.eq_ofNat_of_zero_le (show 0≤lev by omega)
  have:=fitN_le rs;by_cases hf:fitN rs<rs.length
  ·exact refEnc_full n (by omega) (by omega) v rs hf w hv
  ·exact refEnc_fits n (by omega) v rs (by omega) w hv
end Go.Proofs.YtmbkaedhllfoeaaGreat
namespace Go.Pg
theorem ok_fit{lev:Int}(h0:0≤lev)(h4:lev≤4)(rs:List Rw):pageOk lev (rs.take (fitN rs))=true:=by
 have:=fitN_fit rs;unfold pageOk;simp only[decide_eq_true_eq];exact⟨h0,h4,this⟩
theorem chunk_end(f:Nat){cs:List (List Rw)}(h:cs≠ []):chunkF f cs []=some cs:=by
 cases f with
 |zero=>rfl
 |succ f=>rw[chunkF,if_pos ⟨rfl,h⟩]
theorem chunk_none{f:Nat}{cs:List (List Rw)}{l:List Rw}(hl:l≠ [])(h0:fitN l=0):chunkF (f+1) cs l=none:=by
 rw[chunkF,if_neg (fun h=>hl h.1),if_pos ⟨h0,hl⟩]
theorem chunk_more{f:Nat}{cs:List (List Rw)}{l:List Rw}(hl:l≠ [])(h0:0<fitN l):chunkF (f+1) cs l=chunkF f (cs++ [l.take (fitN l)]) (l.drop (fitN l)):=by
 rw[chunkF,if_neg (fun h=>hl h.1),if_neg (fun h=>by omega)]
theorem chunk_first(f:Nat):chunkF (f+1) [] []=some [[]]:=by
 rw[chunkF,if_neg (fun h=>h.2 rfl),if_neg (fun h=>h.2 rfl)];exact chunk_end f (by simp)
end Go.Pg
namespace Go.Proofs.YtmbkaedhllfoeaaGreat
open Go.RowKit Go.Rst Go.Pg Go.Crc
def vlen(v:Value):Nat:=match v with
 | .slice _ n _=>n
 |_=>0
def GivesLv(w:World)(r:Option (List (List UInt8)×List Rw))(e:Ending)(w':World):Prop:=
 ∃p a,e= .returned (.tuple #[p,a,.bool r.isSome])∧OP 5 46 w' w.heap.size p ((r.map (·.1)).getD [])∧OR 5 78 w' w.heap.size a ((r.map (·.2)).getD [])∧Below w.heap.size w w'
theorem GivesLv.none_{w w':World}{r:Option (List (List UInt8)×List Rw)}(h:r=none)(hb:Below w.heap.size w w'):GivesLv w r (.returned (.tuple #[.slice none 0 0,.slice none 0 0,.bool false])) w':=by
 subst h;exact⟨_,_,rfl,OP.nil_ _ _ _ _,OR.nil_ _ _ _ _,hb⟩
theorem GivesLv.some_{w w':World}{r:Option (List (List UInt8)×List Rw)}{ps:List (List UInt8)}{rs:List Rw}{p a:Value}(h:r=some (ps,rs))(hp:OP 5 46 w' w.heap.size p ps)(ha:OR 5 78 w' w.heap.size a rs)(hb:Below w.heap.size w w'):
  GivesLv w r (.returned (.tuple #[p,a,.bool true])) w':=by
 subst h;exact⟨_,_,rfl,hp,ha,hb⟩
theorem rr_drop{w:World}{b off m c:Nat}{rs:List Rw}(h:RR w (.slice (some ⟨b,off,none⟩) m c) rs){k:Nat}(hk:k≤rs.length):RR w (.slice (some ⟨b,off+k*2,none⟩) (m-k) (c-k)) (rs.drop k):=by
 obtain⟨A',c',he,h1,h2,h3⟩:=h;injection he with e1 e2 e3;subst e1;subst e2;subst e3;refine⟨some ⟨b,off+k*2,none⟩,c-k,by rw[List.length_drop],by rw[List.length_drop];omega,by omega,?_⟩;rcases h3 with rfl|⟨b',off',he,hb,hc⟩
 ·exact .inl (by simp)
 ·injection he with he
  injection he with e1 e2 _;subst e1;subst e2;refine .inr ⟨b,off+k*2,rfl,hb,fun j hj=>?_⟩;rw[List.length_drop] at hj;have:=hc (k+j) (by omega);rw[List.getElem_drop,show off+k*2+j*2=off+(k+j)*2 from by omega];exact this
theorem rr_empty{w:World}(A:Option Addr)(c:Nat)(h:c≤maxLen):RR w (.slice A 0 c) []:=⟨A,c,rfl,Nat.zero_le _,h,.inl rfl⟩
theorem refLevel_any(n from_:Nat)(hn:n≤4)(ay:from_≤1000000)(v:Value)(rs:List Rw)(hlen:rs.length≤1000000)(w:World)(hv:RR w v rs):
  Calls Tryz.prog 104 #[.int .i64 n,.int .i64 from_,v] w (GivesLv w (levelL n from_ rs)):=by
 have HV:=qH hv;obtain⟨A,c,rfl,_,_⟩:=rr_shape hv;have hL:levelL n from_ rs=(chunks rs).map fun cs=>(pagesF n cs,aboveF from_ cs):=rfl
 have HL:=qH hL;clear hv hL;go_enter Tryz.func104,Tryz.ntmps104;go_wp2
 go_loopw [2,9,10] (fun lv pv av wr=>∃(f:Nat) (cs:List (List Rw)) (rest:List Rw),RR w lv rest∧OP 5 46 wr w.heap.size pv (pagesF n cs)∧OR 5 78 wr w.heap.size av (aboveF from_ cs)∧Below w.heap.size w wr∧
   chunkF f cs rest=chunks rs∧rest.length≤f∧(cs= []→rest.length+1≤f)∧cs.length+rest.length≤rs.length+1)
  (fun lv pv _ _=>vlen lv+(1-vlen pv))
 case atStart=>exact⟨rs.length+1,[],rs,HV.out,OP.nil_ _ _ _ _,OR.nil_ _ _ _ _,Below.refl _ _,rfl,by omega,fun _=>Nat.le_refl _,by simp⟩
 case round=>
  obtain⟨f,cs,rest,iw,hop,aK,ad,hch,eo,hf2,hcl⟩:=hrel;obtain⟨Wo,iq⟩:∃x,x=wr:=⟨_,rfl⟩
  subst iq;obtain⟨Al,cl,rfl,hlc,fw⟩:=rr_shape iw;obtain⟨Ap,cp,rfl,vO,hpc⟩:=hop.shape;obtain⟨Aa,ca,rfl⟩:=or_shape aK;have hpl:=pages_len (n:Int) cs;have hal:=above_len from_ cs;have hsz:=ad.size;rw[hpl] at hpc⊢;rw[hal];have bM:=qH iw;have b8:=qH hop;have da:=qH aK;have HB:=qH ad;have mI:=qH hch;have cW:=qH hpl;have ir:=qH hal;clear iw hop aK ad hch hpl hal;by_cases hend:rest= []∧cs≠ []
  ·obtain⟨rfl,hne⟩:=hend
   have GW:0<cs.length:=List.length_pos_iff.2 hne;have hc0:((cs.length:Int)==0)=false:=by rw[beq_eq_false_iff_ne];omega
   have E:=qH (show levelL n from_ rs=some (pagesF n cs,aboveF from_ cs) by rw[HL.out,←mI.out,chunk_end f hne];rfl);clear mI HL eo hf2;rw[List.length_nil] at *;go_wp2
   go_ret3
   exact GivesLv.some_ E.out (by have:=b8.out;rw[cW.out] at this;exact this) (by have:=da.out;rw[ir.out] at this;exact this) HB.out
  ·obtain⟨K,hK⟩:∃K,K=fitN rest:=⟨_,rfl⟩
   have eC:=rr_below bM.out HB.out (Nat.le_refl _);have hfit:=refFit_any _ rest Wo eC;have wZ:=fitN_le rest;rw[←hK] at hfit wZ;have hok:=ok_fit (lev:=(n:Int)) (by omega) (by omega) rest;rw[←hK] at hok;have i4:=encL_length hok;have henc:=fun W v h=>refEnc_any (n:Int) v (rest.take K) W h
   unfold GivesEnc at henc;rw[hok,i4] at henc;have hnew:=pages_snoc (n:Int) cs (rest.take K);have jE:=above_snoc from_ cs (rest.take K);have hrt:=fun(W:World) (h:RR W (.slice Al rest.length cl) rest)=>rr_take h wZ
   obtain⟨pg,gB⟩:∃pg,pg=encL (n:Int) (rest.take K):=⟨_,rfl⟩
   rw[←gB] at henc hnew i4;have E2:=qH henc;have eF:=qH hnew;have de:=qH jE;have fX:=qH hrt;have eE:=qH hfit;have qS:=qH i4;have hfc:from_+cs.length≤9007199254740992:=by omega
   have rN:clip ((from_:Int)+(cs.length:Int))=from_+cs.length:=by unfold clip;omega
   have lc:=qH rN;clear hfit hok i4 henc hnew jE hrt gB rN;by_cases fl:rest= []
   ·have hcs:cs= []:=by
     by_cases h2:cs= []
     ·exact h2
     ·exact(hend ⟨fl,h2⟩).elim
    subst hcs;subst fl;obtain rfl:K=0:=by rw[hK];rfl
    have E:=qH (show chunks rs=some [[]] by
     rw[←mI.out];obtain⟨f',rfl⟩:∃f',f=f'+1:=⟨f-1,by have:=hf2 rfl;omega⟩
     exact chunk_first f')
    have vg:(((0:Nat):Int)==0)=true:=by rfl
    have HK:=qH hK;rw[List.length_nil] at *;clear hK mI;go_wp2_with fail
    refine eE.out.mono ?_;rintro e w2⟨rfl,hb2⟩;have ae:=qH (HB.out.trans (hb2.mono hsz));have cM:=qH (rr_below bM.out (HB.out.trans (hb2.mono hsz)) (Nat.le_refl _));have iG:=qH (b8.out.below hb2);have em:=qH (da.out.below hb2);clear hb2 b8 da eE eC;go_wp2_with fail
    refine(E2.out _ _ (fX.out _ cM.out)).mono ?_;rintro e w3⟨v3,rfl,cT,hb3⟩;have oj:=qH (FB.own (show w3.ownsRow w2.heap.size 5 1 v3 pg.length (bvs pg) by rw[qS.out];exact cT));obtain⟨A3,c3,rfl,_⟩:=own_shape cT;have ak:=qH (ae.out.trans (hb3.mono ae.out.size));have bO:=qH (rr_below cM.out hb3 (Nat.le_refl _));have nB:=qH (iG.out.below hb3);have kO:=qH (em.out.below hb3);clear cT hb3 cM iG em;go_wp2_with fail
    refine(refNum_any _ _).mono ?_;rintro e w4⟨v4,rfl,bH,hb4⟩;rw[show clip (from_:Int)=from_+0 from by unfold clip;omega] at bH;have il:=qH (FB.own bH);obtain⟨A4,c4,rfl,_⟩:=own_shape bH;have au:Below w.heap.size w w4:=ak.out.trans (hb4.mono ak.out.size);have iS:=qH (rr_below bO.out hb4 (Nat.le_refl _));have j0:=qH (nB.out.below hb4);have jQ:=qH (oj.out.below hb4);have fJ:=(kO.out.below hb4).alloc (Obj.cells #[.string ⟨#[]⟩,.slice A4 (numL (from_+0)).length c4] 78);have dn:=(il.out.base_ (base':=w.heap.size) ak.out.size).below ((Below.refl _ _).alloc (Nat.le_refl _) (Obj.cells #[.string ⟨#[]⟩,.slice A4 (numL (from_+0)).length c4] 78));have aA:=au.alloc au.size (Obj.cells #[.string ⟨#[]⟩,.slice A4 (numL (from_+0)).length c4] 78);obtain⟨us,ah,ho,bC⟩:=fJ;have jH:=qH (show us.length=0 by have h:=congrArg List.length ah;rw[List.length_map,ir.out] at h;exact h);have ce:=qH ah;have jG:=au.size;rw[ir.out] at ho;clear bH hb4 ah il bO nB kO oj;go_wp2_with (at_builtin;refine wpList_own rfl (.tmp 50) (.tmp 58) 40 40 rfl w.heap.size 78 (.agg #[.string ⟨#[]⟩,.slice none 0 0]) 2 40 Tryz.underlying40 info78 rfl rfl ho rfl (src_two _ (by simp) Tryz.underlying40 78 _ _ rfl rfl) aA (Nat.le_refl _) ?_ ?_ ?_ ?_)
    ·have:=jH.out;unfold maxLen;omega
    ·have:=jH.out;omega
    ·simp;omega
    intro v5 w5 aI hb5' hg5;have im:=OR.push (by decide) ho bC dn aI hg5;rw[ce.out] at im;have ng:=(j0.out.alloc (Obj.cells #[.string ⟨#[]⟩,.slice A4 (numL (from_+0)).length c4] 78)).grown ho (by decide) (by decide) hg5;have gx:=(jQ.out.below ((Below.refl _ _).alloc (Nat.le_refl _) (Obj.cells #[.string ⟨#[]⟩,.slice A4 (numL (from_+0)).length c4] 78))).grown ho (by decide) hg5;have fA:=im.alloc (Obj.cells #[.slice A3 256 c3] 46);have mu:=ng.alloc (Obj.cells #[.slice A3 256 c3] 46);have nX:=(gx.base_ (base':=w.heap.size) ae.out.size).below ((Below.refl _ _).alloc (Nat.le_refl _) (Obj.cells #[.slice A3 256 c3] 46));have bX:=hb5'.alloc hb5'.size (Obj.cells #[.slice A3 256 c3] 46);have B9:=hb5'.size;obtain⟨up,hup,hpo,dW⟩:=mu;have ji:=qH (show up.length=0 by have h:=congrArg List.length hup;rw[List.length_map,cW.out] at h;exact h);have kn:=qH hup;have mW:=qH fA;rw[cW.out] at hpo;clear ho bC dn aI hb5' hg5 im ng gx fA hup j0 jQ aA;go_wp2_with (at_builtin;refine wpList_own rfl (.tmp 60) (.tmp 62) 26 26 rfl w.heap.size 46 (.slice none 0 0) 1 24 Tryz.underlying26 info46 rfl rfl hpo rfl (src_one _ Tryz.underlying26 46 _ rfl) bX (Nat.le_refl _) ?_ ?_ ?_ ?_)
    ·have:=ji.out;unfold maxLen;omega
    ·have:=ji.out;omega
    ·simp;omega
    intro v6 w6 dG ap hg6;have eg:=OP.push (by decide) hpo dW nX dG hg6;rw[kn.out] at eg;have nP:=or_grown mW.out hpo (by decide) (by decide) hg6;have jh:=qH eg;have tp:=qH nP;have aE:=qH ap;clear hpo dW nX dG ap hg6 eg nP bX mW;obtain⟨Av,cv,yO,_,_⟩:=jh.out.shape;have DO:(pagesF (n:Int) []++ [pg]).length=1:=rfl;rw[DO] at yO;have FH:pagesF (n:Int) [[]]=pagesF (n:Int) []++ [pg]:=eF.out;have wl:aboveF from_ [[]]=aboveF from_ []++ [(⟨#[]⟩,numL (from_+0))]:=de.out;have sn:=qH FH;have EI:=qH wl;have hcm:cl≤maxLen:=by unfold maxLen;omega
    clear FH wl;go_wp2;go_roundw
    case rel=>
     refine⟨0,[[]],[],rr_empty _ _ (by first|exact hcm|(simp;done)|(unfold maxLen;omega)),by rw[sn.out];exact jh.out,by rw[EI.out];exact tp.out,aE.out,?_,Nat.le_refl _,fun h=>by simp at h,by simp⟩;rw[chunk_end 0 (by simp)];exact E.out.symm
    case measure=>
     rw[yO];simp[vlen]
   ·have hrl:0<rest.length:=List.length_pos_iff.2 fl
    have Ic:(0:Int)<(rest.length:Int):=by omega
    by_cases hK0:K=0
    ·subst hK0
     have E:=qH (show levelL n from_ rs=none by
      rw[HL.out,←mI.out];obtain⟨f',rfl⟩:∃f',f=f'+1:=⟨f-1,by omega⟩
      rw[chunk_none fl (by omega)];rfl)
     have vg:(((0:Nat):Int)==0)=true:=by rfl
     have HK:=qH hK;clear hK;clear mI HL eo hf2 eF de;go_wp2_with fail
     refine eE.out.mono ?_;rintro e w2⟨rfl,hb2⟩;have ae:=qH (HB.out.trans (hb2.mono hsz));have cM:=qH (rr_below bM.out (HB.out.trans (hb2.mono hsz)) (Nat.le_refl _));clear hb2;go_wp2_with fail
     refine(E2.out _ _ (fX.out _ cM.out)).mono ?_;rintro e w3⟨v3,rfl,cT,hb3⟩;obtain⟨A3,c3,rfl,_⟩:=own_shape cT;have ak:=qH (ae.out.trans (hb3.mono ae.out.size));clear cT hb3;go_wp2
     go_ret3
     exact GivesLv.none_ E.out ak.out
    ·obtain⟨b,off,u,rfl,hx0,_,_⟩:=rr_at bM.out hrl
     have hb0:=rr_block bM.out hrl;have hb:b<Wo.heap.size:=Nat.lt_of_lt_of_le hb0 hsz;rw[Nat.zero_mul,Nat.add_zero] at hx0
     replace hx0:=(HB.out.cell (p:=⟨b,off,none⟩) hb0).trans hx0
     have hkey:headKey (rest.take K)=(rest[0]'hrl).1:=by
      obtain⟨k',rfl⟩:∃k',K=k'+1:=⟨K-1,by omega⟩
      cases rest with
      |nil=>simp at hrl
      |cons r t=>rfl
     obtain⟨ky,mt⟩:∃ky,ky=(rest[0]'hrl).1:=⟨_,rfl⟩
     rw[←mt] at hkey hx0;have HKEY:=qH hkey;have vg:((K:Int)==0)=false:=by rw[beq_eq_false_iff_ne];omega
     have HK:=qH hK;have GZ:(0:Int)<(K:Int):=by omega
     have E:=qH (show chunkF (f-1) (cs++ [rest.take K]) (rest.drop K)=chunks rs by
      rw[←mI.out];obtain⟨f',rfl⟩:∃f',f=f'+1:=⟨f-1,by omega⟩
      rw[chunk_more fl (by omega),←hK];rfl)
     clear mt hkey mI hK hK0;go_wp2_with fail
     refine eE.out.mono ?_;rintro e w2⟨rfl,hb2⟩;have ae:=qH (HB.out.trans (hb2.mono hsz));have cM:=qH (rr_below bM.out (HB.out.trans (hb2.mono hsz)) (Nat.le_refl _));have iG:=qH (b8.out.below hb2);have em:=qH (da.out.below hb2);have hx2:=(hb2.cell (p:=⟨b,off,none⟩) hb).trans hx0;have bg:b<w2.heap.size:=Nat.lt_of_lt_of_le hb hb2.size;clear hb2 b8 da eE hx0 eC;go_wp2_with fail
     refine(E2.out _ _ (fX.out _ cM.out)).mono ?_;rintro e w3⟨v3,rfl,cT,hb3⟩;have oj:=qH (FB.own (show w3.ownsRow w2.heap.size 5 1 v3 pg.length (bvs pg) by rw[qS.out];exact cT));obtain⟨A3,c3,rfl,_⟩:=own_shape cT;have ak:=qH (ae.out.trans (hb3.mono ae.out.size));have bO:=qH (rr_below cM.out hb3 (Nat.le_refl _));have nB:=qH (iG.out.below hb3);have kO:=qH (em.out.below hb3);have hx3:=(hb3.cell (p:=⟨b,off,none⟩) bg).trans hx2;clear cT hb3 cM iG em hx2;go_wp2_with fail
     refine(refNum_any _ _).mono ?_;rintro e w4⟨v4,rfl,bH,hb4⟩;rw[lc.out] at bH;have il:=qH (FB.own bH);obtain⟨A4,c4,rfl,_⟩:=own_shape bH;have au:Below w.heap.size w w4:=ak.out.trans (hb4.mono ak.out.size);have iS:=qH (rr_below bO.out hb4 (Nat.le_refl _));have j0:=qH (nB.out.below hb4);have jQ:=qH (oj.out.below hb4);have fJ:=(kO.out.below hb4).alloc (Obj.cells #[.string ky,.slice A4 (numL (from_+cs.length)).length c4] 78);have dn:=(il.out.base_ (base':=w.heap.size) ak.out.size).below ((Below.refl _ _).alloc (Nat.le_refl _) (Obj.cells #[.string ky,.slice A4 (numL (from_+cs.length)).length c4] 78));have aA:=au.alloc au.size (Obj.cells #[.string ky,.slice A4 (numL (from_+cs.length)).length c4] 78);obtain⟨us,ah,ho,bC⟩:=fJ;have jH:=qH (show us.length=cs.length by have h:=congrArg List.length ah;rw[List.length_map,ir.out] at h;exact h);have ce:=qH ah;have jG:=au.size;rw[ir.out] at ho;clear bH hb4 ah il bO nB kO oj hx3;go_wp2_with (at_builtin;refine wpList_own rfl (.tmp 50) (.tmp 58) 40 40 rfl w.heap.size 78 (.agg #[.string ⟨#[]⟩,.slice none 0 0]) 2 40 Tryz.underlying40 info78 rfl rfl ho rfl (src_two _ (by simp) Tryz.underlying40 78 _ _ rfl rfl) aA (Nat.le_refl _) ?_ ?_ ?_ ?_)
     ·have:=jH.out;unfold maxLen;omega
     ·have:=jH.out;omega
     ·simp;omega
     intro v5 w5 aI hb5' hg5;have im:=OR.push (by decide) ho bC dn aI hg5;rw[ce.out] at im;have ng:=(j0.out.alloc (Obj.cells #[.string ky,.slice A4 (numL (from_+cs.length)).length c4] 78)).grown ho (by decide) (by decide) hg5;have gx:=(jQ.out.below ((Below.refl _ _).alloc (Nat.le_refl _) (Obj.cells #[.string ky,.slice A4 (numL (from_+cs.length)).length c4] 78))).grown ho (by decide) hg5;have fA:=im.alloc (Obj.cells #[.slice A3 256 c3] 46);have mu:=ng.alloc (Obj.cells #[.slice A3 256 c3] 46);have nX:=(gx.base_ (base':=w.heap.size) ae.out.size).below ((Below.refl _ _).alloc (Nat.le_refl _) (Obj.cells #[.slice A3 256 c3] 46));have bX:=hb5'.alloc hb5'.size (Obj.cells #[.slice A3 256 c3] 46);have B9:=hb5'.size;obtain⟨up,hup,hpo,dW⟩:=mu;have ji:=qH (show up.length=cs.length by have h:=congrArg List.length hup;rw[List.length_map,cW.out] at h;exact h);have kn:=qH hup;have mW:=qH fA;rw[cW.out] at hpo;clear ho bC dn aI hb5' hg5 im ng gx fA hup j0 jQ aA;go_wp2_with (at_builtin;refine wpList_own rfl (.tmp 60) (.tmp 62) 26 26 rfl w.heap.size 46 (.slice none 0 0) 1 24 Tryz.underlying26 info46 rfl rfl hpo rfl (src_one _ Tryz.underlying26 46 _ rfl) bX (Nat.le_refl _) ?_ ?_ ?_ ?_)
     ·have:=ji.out;unfold maxLen;omega
     ·have:=ji.out;omega
     ·simp;omega
     intro v6 w6 dG ap hg6;have eg:=OP.push (by decide) hpo dW nX dG hg6;rw[kn.out] at eg;have nP:=or_grown mW.out hpo (by decide) (by decide) hg6;have jh:=qH eg;have tp:=qH nP;have aE:=qH ap;clear hpo dW nX dG ap hg6 eg nP bX mW;have KC:(K:Int)≤(cl:Int):=by omega
     have J1:(K:Int)≤(rest.length:Int):=by omega
     obtain⟨Av,cv,yO,_,_⟩:=jh.out.shape;have DO:(pagesF (n:Int) cs++ [pg]).length=cs.length+1:=by rw[List.length_append,cW.out];rfl
     rw[DO] at yO;go_wp2;go_roundw
     case rel=>
      refine⟨f-1,cs++ [rest.take K],rest.drop K,?_,by rw[eF.out];exact jh.out,by rw[de.out,HKEY.out];exact tp.out,aE.out,E.out,by rw[List.length_drop];omega,fun h=>by simp at h,by rw[List.length_drop,List.length_append];simp;omega⟩;by_cases cj:cl=K
      ·rw[if_pos cj,List.drop_eq_nil_of_le (by omega),show rest.length-K=0 from by omega]
       exact rr_empty _ _ (by unfold maxLen;omega)
      ·rw[if_neg cj]
       exact rr_drop bM.out (by omega)
     case measure=>
      rw[yO];simp[vlen];omega
end Go.Proofs.YtmbkaedhllfoeaaGreat
namespace Go.Pg
theorem chunk_len:∀(f:Nat) (cs:List (List Rw)) (l:List Rw) (r:List (List Rw)),chunkF f cs l=some r→r.length≤cs.length+l.length+(if cs= [] then 1 else 0)
 |0,cs,l,r,h=>by
  rw[chunkF] at h;injection h with h;rw[←h];omega
 |f+1,cs,l,r,h=>by
  rw[chunkF] at h;split at h
  ·injection h with h
   rw[←h];omega
  ·split at h
   ·cases h
   ·rename_i h1 h2
    have:=chunk_len f _ _ _ h;rw[List.length_append,List.length_drop,if_neg (by simp)] at this;have hle:=fitN_le l;simp only[List.length_cons,List.length_nil] at this;by_cases hl:l= []
    ·subst hl
     have hc:cs= []:=by
      by_cases hc:cs= []
      ·exact hc
      ·exact(h1 ⟨rfl,hc⟩).elim
     rw[if_pos hc];omega
    ·have hp:0<fitN l:=by
      rcases Nat.eq_zero_or_pos (fitN l) with h0|h0
      ·exact(h2 ⟨h0,hl⟩).elim
      ·exact h0
     omega
theorem level_len{n:Int}{from_:Nat}{l:List Rw}{p:List (List UInt8)}{a:List Rw}(h:levelL n from_ l=some (p,a)):p.length≤l.length+1∧a.length≤l.length+1:=by
 unfold levelL at h
 cases hc:chunks l with
 |none=>rw[hc] at h;cases h
 |some cs=>
  rw[hc] at h;injection h with h;injection h with h1 h2;have:=chunk_len _ _ _ _ hc;rw[←h1,←h2,pages_len,above_len]
  simpa using this
theorem build_step(f n:Nat)(all:List (List UInt8))(l:List Rw):buildF (f+1) n all l=match levelL n all.length l with
  |none=>none
  |some (p,a)=>if p.length=1 then some (all++p) else buildF f (n+1) (all++p) a:=by
 rw[buildF];rfl
end Go.Pg
namespace Go.Proofs.YtmbkaedhllfoeaaGreat
open Go.RowKit Go.Rst Go.Pg Go.Crc
def GivesBd(w:World)(r:Option (List (List UInt8)))(e:Ending)(w':World):Prop:=
 ∃p,e= .returned (.tuple #[p,.bool r.isSome])∧OP 5 46 w' w.heap.size p (r.getD [])∧Below w.heap.size w w'
theorem GivesBd.none_{w w':World}{r:Option (List (List UInt8))}(h:r=none)(hb:Below w.heap.size w w'):GivesBd w r (.returned (.tuple #[.slice none 0 0,.bool false])) w':=by
 subst h;exact⟨_,rfl,OP.nil_ _ _ _ _,hb⟩
theorem GivesBd.some_{w w':World}{r:Option (List (List UInt8))}{ps:List (List UInt8)}{p:Value}(h:r=some ps)(hp:OP 5 46 w' w.heap.size p ps)(hb:Below w.heap.size w w'):
  GivesBd w r (.returned (.tuple #[p,.bool true])) w':=by
 subst h;exact⟨_,rfl,hp,hb⟩
def Either(w wr:World)(v:Value)(rs:List Rw):Prop:=RR w v rs∨OR 5 78 wr w.heap.size v rs
theorem Either.rr{w wr:World}{v:Value}{rs:List Rw}(h:Either w wr v rs)(hb:Below w.heap.size w wr):RR wr v rs:=by
 rcases h with h|h
 ·exact rr_below h hb (Nat.le_refl _)
 ·exact h.rr
theorem refBuild_any(v:Value)(rs:List Rw)(w:World)(hv:RR w v rs):
  Calls Tryz.prog 58 #[v] w (GivesBd w (buildL rs)):=by
 have HV:=qH hv;have ki:=refRising_any v rs w hv;obtain⟨A,c,rfl,hlc,fw⟩:=rr_shape hv;have hB:buildL rs=if risingL rs=false∨5000<rs.length then none else buildF 5 0 [] rs:=rfl
 clear hv
 cases hr:risingL rs with
 |false=>
  rw[if_pos (.inl hr)] at hB;rw[hr] at ki;have HB:=qH hB;have qC:=qH ki;clear hB ki hr;go_enter Tryz.func58,Tryz.ntmps58;go_wp2_with fail
  refine qC.out.mono ?_;rintro e w1⟨rfl,ad⟩;have an:=qH ad;clear ad;go_wp2
  go_ret2
  exact GivesBd.none_ HB.out an.out
 |true=>
  rw[hr] at ki;have qC:=qH ki;by_cases hbig:5000<rs.length
  ·rw[if_pos (.inr hbig)] at hB
   have HB:=qH hB;have cA:(5000:Int)<(rs.length:Int):=by omega
   clear hB ki hr;go_enter Tryz.func58,Tryz.ntmps58;go_wp2_with fail
   refine qC.out.mono ?_;rintro e w1⟨rfl,ad⟩;have an:=qH ad;clear ad;go_wp2
   go_ret2
   exact GivesBd.none_ HB.out an.out
  ·rw[if_neg (by rw[hr];simp;omega)] at hB
   have b7:=qH hB;have cA:(rs.length:Int)≤5000:=by omega
   clear hB ki hr;go_enter Tryz.func58,Tryz.ntmps58;go_wp2_with fail
   refine qC.out.mono ?_;rintro e w1⟨rfl,ad⟩;have an:=qH ad;clear ad;go_wp2
   go_loopw [0,4,5] (fun lv av i wr=>∃(k:Nat) (all:List (List UInt8)) (rest:List Rw),k≤5∧i= .int .i64 k∧OP 5 46 wr w.heap.size av all∧Either w wr lv rest∧Below w.heap.size w wr∧
     buildF (5-k) k all rest=buildF 5 0 [] rs∧rest.length≤5000+k∧all.length≤k*6000)
    (fun _ _ i _=>5-(intOf i).toNat)
   case atStart=>exact⟨0,[],rs,by omega,rfl,OP.nil_ _ _ _ _,.inl HV.out,an.out,rfl,by omega,by simp⟩
   case round=>
    obtain⟨k,all,rest,hk,rfl,hop,ph,ad,dV,hrl,hall⟩:=hrel;obtain⟨Wo,iq⟩:∃x,x=wr:=⟨_,rfl⟩
    subst iq;have iw:=ph.rr ad;obtain⟨Al,cl,rfl,_,_⟩:=rr_shape iw;obtain⟨Ap,cp,rfl,vO,hpc⟩:=hop.shape;have b8:=qH hop;have HB:=qH ad;have hsz:=ad.size;clear an;by_cases hlt:k<5
    ·have eh:=refLevel_any k all.length (by omega) (by omega) _ rest (by omega) Wo iw
     rw[show 5-k=(4-k)+1 from by omega,build_step] at dV
     cases hlv:levelL (k:Int) all.length rest with
     |none=>
      rw[hlv] at eh dV;have E:=qH (show buildL rs=none by rw[b7.out,←dV]);have sp:=qH eh;clear eh dV hop ph ad iw;go_wp2_with fail
      refine sp.out.mono ?_;rintro e w2⟨p,a,rfl,hp2,ha2,hb2⟩;obtain⟨A2,c2,rfl,_,_⟩:=hp2.shape;obtain⟨A3,c3,rfl⟩:=or_shape ha2;have ae:=qH (HB.out.trans (hb2.mono hsz));clear hp2 ha2 hb2;go_wp2
      go_ret2
      exact GivesBd.none_ E.out ae.out
     |some pa=>
      obtain⟨pp,aa⟩:=pa;have hll:=level_len hlv;rw[hlv] at eh dV;simp only[] at dV;have sp:=qH eh;have uy:=qH dV;have Bh:=qH ph;clear eh dV hop ph ad iw;go_wp2_with fail
      refine sp.out.mono ?_;rintro e w2⟨p,a,rfl,hp2,ha2,hb2⟩;have hp2:OP 5 46 w2 Wo.heap.size p pp:=hp2;have ha2:OR 5 78 w2 Wo.heap.size a aa:=ha2;obtain⟨A2,c2,rfl,hc2,Cb⟩:=hp2.shape;obtain⟨A3,c3,rfl⟩:=or_shape ha2;have ag:Below w.heap.size w w2:=HB.out.trans (hb2.mono hsz);have pK:=b8.out.below hb2;obtain⟨us,ah,ho,hf⟩:=pK;obtain⟨us2,dq,aQ,hf2⟩:=hp2.base_ (base':=w.heap.size) hsz;have eY:us.length=all.length:=by rw[←ah,List.length_map]
      have gG:us2.length=pp.length:=by rw[←dq,List.length_map]
      have hone:∀x∈us2,x.2.oneCell'=true:=fun x hx=>fb_one (hf2 x hx)
      have hsrc:=OP.src (tx:=26) aQ Tryz.underlying26 hone;rw[eY] at ho;have ho0:=ho;rw[gG] at hsrc;have cD:=qH hsrc;have ce:=qH ah;have oo:=qH dq;have bt:=qH eY;have mF:=qH gG;have HO:=qH ho;have da:=qH (ha2.base_ (base':=w.heap.size) hsz);have ae:=qH ag;clear hp2 ha2 hb2 aQ ah dq eY gG hsrc hone ho ho0 ag;go_wp2_with (at_builtin;refine wpList_own rfl (.tmp 32) (.tmp 33) 26 26 rfl w.heap.size 46 (.slice none 0 0) 1 24 Tryz.underlying26 info46 rfl rfl HO.out rfl cD.out ae.out (Nat.le_refl _) ?_ ?_ ?_ ?_)
      ·unfold maxLen;omega
      ·omega
      ·exact ae.out.size
      intro v4 w4 bH hb4 hg4;have qj:=OP.join (e:=5) (eP:=46) (us:=us) (us2:=us2) (by decide) (by rw[bt.out];exact HO.out) hf hf2 (by rw[bt.out,mF.out];exact bH) hg4;rw[ce.out,oo.out] at qj;have aM:=or_grown da.out HO.out (by decide) (by decide) hg4;obtain⟨A4,c4,rfl,_,_⟩:=qj.shape;have j0:=qH qj;have nO:=qH aM;have ai:=qH hb4;clear qj aM hb4 hg4 bH hf hf2 HO cD b8;by_cases h1:pp.length=1
      ·have E:=qH (show buildL rs=some (all++pp) by rw[b7.out,←uy.out,if_pos h1])
       have h1':((pp.length:Int)==1)=true:=by rw[h1];rfl
       have H1:=qH h1;clear h1;go_wp2
       go_ret2
       exact GivesBd.some_ E.out j0.out ai.out
      ·have E:=qH (show buildF (4-k) (k+1) (all++pp) aa=buildF 5 0 [] rs by rw[←uy.out,if_neg h1])
       have h1':((pp.length:Int)==1)=false:=by rw[beq_eq_false_iff_ne];omega
       have H1:=qH h1;clear h1;go_wp2;go_roundw
       case rel=>exact⟨k+1,all++pp,aa,by omega,by go_num,j0.out,.inr nO.out,ai.out,by rw[show 5-(k+1)=4-k from by omega];exact E.out,by omega,by rw[List.length_append];omega⟩
       case measure=>simp[intOf];omega
    ·have e:k=5:=by omega
     subst e;rw[Nat.sub_self,buildF] at dV;have E:=qH (show buildL rs=none by rw[b7.out,←dV]);clear dV hop ph ad iw;go_wp2
     go_ret2
     exact GivesBd.none_ E.out HB.out
end Go.Proofs.YtmbkaedhllfoeaaGreat
namespace Go.Pg
open Go.Rst Go.Crc
def gsize(l:List Rw):Nat:=min (max (fitN l) 1) l.length
def groupsF:Nat→List Rw→List (List Rw)
 |0,_=> []
 |f+1,l=>l.take (gsize l)::(if l.length≤gsize l then [] else groupsF f (l.drop (gsize l)))
def groupsL(l:List Rw):List (List Rw):=groupsF (l.length+1) l
theorem gsize_le(l:List Rw):gsize l≤l.length:=Nat.min_le_right _ _
theorem gsize_pos{l:List Rw}(h:l≠ []):0<gsize l:=by
 have:=List.length_pos_iff.2 h;unfold gsize;omega
theorem groupsF_more:∀(f g:Nat) (l:List Rw),l.length<f→f≤g→groupsF g l=groupsF f l
 |0,_,_,h,_=>by omega
 |f+1,0,_,_,h=>by omega
 |f+1,g+1,l,h,hg=>by
  unfold groupsF;split
  ·rfl
  ·rename_i hl
   have h1:=gsize_le l;have h2:0<gsize l:=gsize_pos (fun e=>by subst e;simp at hl);rw[groupsF_more f g (l.drop (gsize l)) (by rw[List.length_drop];omega) (by omega)]
theorem groupsL_end{l:List Rw}(h:l.length≤gsize l):groupsL l= [l.take (gsize l)]:=by
 unfold groupsL groupsF;rw[if_pos h]
theorem groupsL_more{l:List Rw}(h:¬l.length≤gsize l):groupsL l=l.take (gsize l)::groupsL (l.drop (gsize l)):=by
 have h1:=gsize_le l;have h2:0<gsize l:=gsize_pos (fun e=>by subst e;simp at h);unfold groupsL;rw[groupsF,if_neg h,groupsF_more ((l.drop (gsize l)).length+1) l.length (l.drop (gsize l)) (by omega) (by rw[List.length_drop];omega)]
theorem groupsF_len:∀(f:Nat) (l:List Rw),(groupsF f l).length≤f
 |0,_=>Nat.le_refl _
 |f+1,l=>by
  unfold groupsF;split
  ·simp
  ·have:=groupsF_len f (l.drop (gsize l))
   simp only[List.length_cons];omega
theorem groupsL_len(l:List Rw):(groupsL l).length≤l.length+1:=groupsF_len _ _
theorem ok_none{lev:Int}{l:List Rw}(hl:l≠ [])(h0:fitN l=0):pageOk lev (l.take 1)=false:=by
 have h1:=fitN_take l 1;rw[h0] at h1;have h2:=List.length_pos_iff.2 hl;unfold pageOk;rw[decide_eq_false_iff_not];rintro⟨_,_,h⟩;rw[h1,List.length_take] at h;omega
theorem chunk_groups{lev:Int}(h0:0≤lev)(h4:lev≤4):∀(f:Nat) (cs:List (List Rw)) (l:List Rw),l.length<f→(cs= []∨l≠ [])→
  chunkF f cs l=if (groupsL l).all (pageOk lev) then some (cs++groupsL l) else none
 |0,_,_,h,_=>by omega
 |f+1,cs,l,h,hc=>by
  by_cases hl:l= []
  ·subst hl
   have hcs:cs= []:=by
    rcases hc with hc|hc
    ·exact hc
    ·exact(hc rfl).elim
   subst hcs;have hok:pageOk lev []=true:=by have:=ok_fit h0 h4 [];simpa using this
   rw[chunk_first,groupsL_end (by simp)];simp[hok]
  ·have KG:=List.length_pos_iff.2 hl
   by_cases hf:fitN l=0
   ·rw[chunk_none hl hf]
    have hg:gsize l=1:=by unfold gsize;omega
    have hno:(groupsL l).all (pageOk lev)=false:=by
     by_cases he:l.length≤gsize l
     ·rw[groupsL_end he,hg];simp[ok_none hl hf]
     ·rw[groupsL_more he,hg];simp[ok_none hl hf]
    rw[hno];rfl
   ·have J5:0<fitN l:=by omega
    have hfl:=fitN_le l;have hg:gsize l=fitN l:=by unfold gsize;omega
    rw[chunk_more hl J5];have hok:=ok_fit h0 h4 l;by_cases he:l.length≤gsize l
    ·rw[groupsL_end he,hg,List.drop_eq_nil_of_le (by omega),chunk_end _ (by simp)]
     simp[hok]
    ·rw[groupsL_more he,hg,chunk_groups h0 h4 f _ (l.drop (fitN l)) (by rw[List.length_drop];omega) (.inr (by
      intro e;have:=congrArg List.length e;rw[List.length_drop,List.length_nil] at this;omega))]
     simp[hok]
theorem level_groups{n:Nat}(hn:n≤4)(from_:Nat)(l:List Rw):
  levelL n from_ l=if (groupsL l).all (pageOk n) then some (pagesF n (groupsL l),aboveF from_ (groupsL l)) else none:=by
 unfold levelL chunks;rw[chunk_groups (lev:=(n:Int)) (by omega) (by omega) _ _ _ (Nat.lt_succ_self _) (.inl rfl)];split <;>simp
theorem groupsF_ne:∀(f:Nat) (l:List Rw),l≠ []→∀c∈groupsF f l,c≠ []
 |0,_,_,c,h=>by cases h
 |f+1,l,hl,c,h=>by
  have h1:=gsize_pos hl;have h2:=List.length_pos_iff.2 hl;unfold groupsF at h;rcases List.mem_cons.1 h with rfl|h
  ·intro e
   have:=congrArg List.length e;rw[List.length_take,List.length_nil] at this;omega
  ·split at h
   ·cases h
   ·rename_i hn
    refine groupsF_ne f _ (fun e=>?_) c h;have:=congrArg List.length e;rw[List.length_drop,List.length_nil] at this;omega
theorem groups_ne{l:List Rw}(hl:l≠ []):∀c∈groupsL l,c≠ []:=groupsF_ne _ l hl
theorem groups_nil:groupsL []= [[]]:=rfl
theorem groups_pos(l:List Rw):1≤(groupsL l).length:=by unfold groupsL groupsF;simp
end Go.Pg
namespace Go.Pg
open Go.Rst Go.Crc
def rowsFT:List (List UInt8)→List Rw→List Rw×Nat
 | [],acc=>(acc,0)
 |p::ps,acc=>if (decR p).2.2≠0 then ([],(decR p).2.2) else rowsFT ps (if (decR p).1=0∧acc.length≤5000 then acc++(decR p).2.1 else acc)
def rowsT(ps:List (List UInt8)):List Rw×Nat:=
 if (rowsFT ps []).2≠0 then ([],(rowsFT ps []).2) else if buildL (rowsFT ps []).1=some ps then ((rowsFT ps []).1,0) else ([],11)
theorem decR_len(p:List UInt8):(decR p).2.1.length≤250:=by
 have hf:∀l:List Rw,pageOk ((p.getD 0 0).toNat:Int) l=true→l.length≤250:=by
  intro l h;unfold pageOk at h;simp only[decide_eq_true_eq] at h;have hx:∀(rs:List Rw) (left:Nat),fitF rs left≤left:=by
   intro rs
   induction rs with
   |nil=>intro left;exact Nat.zero_le _
   |cons r rs ih=>
    intro left;unfold fitF;have h1:=ih (left-rsz r);have h2:1≤rsz r:=by unfold rsz;omega
    split
    ·omega
    ·split
     ·omega
     ·omega
  have:=hx l 250;unfold fitN at h;omega
 unfold decR;split
 ·simp
 ·split
  ·simp
  ·split
   ·simp
   ·split
    ·rename_i h;exact hf _ h.1
    ·simp
end Go.Pg
namespace Go.Proofs.YtmbkaedhllfoeaaGreat
open Go.RowKit Go.Rst Go.Crc
theorem refRight_short(v:Value)(l:List UInt8)(w:World)(hv:RB w v l)(hl:l.length<4):
  Calls Tryz.prog 156 #[v] w fun e w'=>e= .returned (.bool (rightL l))∧Below w.heap.size w w':=by
 have hr:rightL l=false:=by unfold rightL;simp;intro h;omega
 rw[hr];obtain⟨A,c,rfl,_⟩:=hv;have hd:decide ((4:Int)≤(l.length:Int))=false:=by simp;omega
 go_enter Tryz.func156,Tryz.ntmps156;go_wp2
 go_quiet (fail)
 go_wp2;go_ret;exact⟨rfl,bel_drewN _ _⟩
theorem refRight_long(v:Value)(l:List UInt8)(w:World)(hv:RB w v l)(hl:4≤l.length)(hbig:l.length≤900000):
  Calls Tryz.prog 156 #[v] w fun e w'=>e= .returned (.bool (rightL l))∧Below w.heap.size w w':=by
 have hv0:=hv;obtain⟨A,c,rfl,h1,h2,_⟩:=hv;have hA:=hv0.head (n:=l.length-4) (by omega);have hr:rightL l=(sealL (l.take (l.length-4))==l):=by rw[rightL_ref];simp[hl]
 obtain⟨n,hn⟩:∃n,n=l.length-4:=⟨_,rfl⟩
 obtain⟨m,hm⟩:∃m,m=l.length:=⟨_,rfl⟩
 rw[←hn] at hA hr;have uI:(l.take n).length≤1000000:=by rw[List.length_take];omega
 rw[←hm] at h1 hl hn hv0⊢;obtain rfl:m=n+4:=by omega
 rw[hr];generalize l.take n=la at *;have h3:(0:Int)≤(n:Int):=by omega
 have h4:(n:Int)≤(n:Int)+4:=by omega
 have h6:(n:Int)≤(c:Int):=by omega
 have h7:(4:Int)≤(n:Int)+4:=by omega
 have HV:=qH hv0;have HA:=qH hA;clear hm hn hA hv0 hr hbig;simp only[maxLen] at h2;have hwr:IntKind.i64.wrap (n:Int)=(n:Int):=by rw[IntKind.wrap_i64];omega
 go_enter Tryz.func156,Tryz.ntmps156;go_wp2;refine wp_region_held_drew (S:=SB [w]) (by kernel_rfl) (SB.start _) (fun hHeld=>?_);refine tkC 0 ?_;refine tkC 1 ?_;refine tkC 2 ?_;refine tkC 3 ?_;refine tkC 4 ?_;refine tkC 5 ?_;refine tkC 6 ?_;refine tkC 7 ?_;refine tkC 8 ?_;refine tkC 11 ?_;refine tkA 12 (v:=?_) ?_ ?_;rotate_left
 ·intro W hSw;have hq:=str22 (HV.out.below (SB.b0 hSw));go_simp;try (with_reducible rfl)
 try simp only[Act.put,zA,zB,zC]
 refine rdA (rs:= [9]) ?_;refine arC (fun K hK=>?_);go_simp;refine(refSeal_any _ la _ (HA.out.below (SB.b0 hHeld)) uI).mono ?_;rintro x w1⟨v1,rfl,hown1,bJ⟩;try (go_wp2_with fail)
 have ac:=SB.step hHeld bJ;refine hK.out _ _ ?_ (fun _=>?_)
 ·exact ac
 clear hK K;try simp only[Act.put,zA,zB,zC]
 have hHeld:=SB.more ac;clear ac;refine wpAnyH_more (S':=SB [w1,w]) (fun W h=>SB.less W h) _ _ _ _ ?_;refine tkA 10 (v:=?_) ?_ ?_;rotate_left
 ·intro W hSw;have hq:=str22 ((RB.own hown1).below (SB.b0 hSw));go_simp;try (with_reducible rfl)
 try simp only[Act.put,zA,zB,zC]
 refine tkC 13 ?_;refine tkC 14 ?_;refine tkC 15 ?_;refine wpAnyH_done (by kernel_rfl) ?_ _;go_wp2;go_ret;exact⟨rfl,SB.b1 hHeld⟩
theorem refRight_any(v:Value)(l:List UInt8)(w:World)(hv:RB w v l)(hbig:l.length≤900000):
  Calls Tryz.prog 156 #[v] w fun e w'=>e= .returned (.bool (rightL l))∧Below w.heap.size w w':=by
 by_cases h:l.length<4
 ·exact refRight_short v l w hv h
 ·exact refRight_long v l w hv (by omega) hbig
open Go.RowKit Go.Rst Go.Pg Go.Crc
def GivesRD(w:World)(r:Nat×List Rw×Nat)(e:Ending)(w':World):Prop:=
 ∃v,e= .returned (.tuple #[.int .i64 r.1,v,.int .i64 r.2.2])∧OR 5 78 w' w.heap.size v r.2.1∧Below w.heap.size w w'
theorem GivesRD.err{w w':World}{r:Nat×List Rw×Nat}{x:Nat}(h:r=(0,[],x))(hb:Below w.heap.size w w'):GivesRD w r (.returned (.tuple #[.int .i64 0,.slice none 0 0,.int .i64 x])) w':=by
 subst h;exact⟨_,rfl,OR.nil_ _ _ _ _,hb⟩
theorem GivesRD.ok{w w':World}{r:Nat×List Rw×Nat}{n:Nat}{rs:List Rw}{v:Value}(h:r=(n,rs,0))(ho:OR 5 78 w' w.heap.size v rs)(hb:Below w.heap.size w w'):GivesRD w r (.returned (.tuple #[.int .i64 n,v,.int .i64 0])) w':=by
 subst h;exact⟨_,rfl,ho,hb⟩
theorem refG_step(b:List UInt8){f n k e:Nat}(h:f=n-k)(hk:k<n)(acc:List Rw):refG b f k e acc=match refRow b k e with
  |none=>none
  |some (r,s)=>refG b (n-(k+1)) (k+1) s (acc++ [r]):=by
 rw[h,show n-k=(n-(k+1))+1 from by omega,refG];rfl
theorem refRow_lt{b:List UInt8}{i e:Nat}{r:Rw}{s:Nat}(h:refRow b i e=some (r,s)):s<e:=by
 unfold refRow at h;split at h
 ·cases h
 ·split at h
  ·cases h
  ·split at h
   ·cases h
   ·split at h
    ·injection h with h
     injection h with _ h;omega
    ·cases h
theorem refDec_any(v:Value)(l:List UInt8)(w:World)(hv:RB w v l):
  Calls Tryz.prog 132 #[v] w (GivesRD w (refDec l)):=by
 have HV:=qH hv;obtain⟨A,c,rfl,hlc,hc,_⟩:=hv;unfold maxLen at hc;have hD:refDec l=if l.length≠256 then (0,[],11) else if rightL l=false then (0,[],12) else match refRows l with
  |none=>(0,[],11)
  |some r=>if pageOk ((l.getD 0 0).toNat:Int) r=true∧encL ((l.getD 0 0).toNat:Int) r=l then ((l.getD 0 0).toNat,r,0) else (0,[],11):=rfl
 by_cases hl:l.length≠256
 ·rw[if_pos hl] at hD
  have HD:=qH hD;have hne:((l.length:Int) !=256)=true:=by simp;omega
  clear hD;go_enter Tryz.func132,Tryz.ntmps132;go_wp2
  go_ret3
  exact GivesRD.err HD.out (Below.refl _ _)
 ·rw[if_neg hl] at hD
  have hl2:l.length=256:=by omega
  have hne:((l.length:Int) !=256)=false:=by simp;omega
  have HL:=qH hl2;have vT:(1:Int)<(l.length:Int):=by omega
  have hright:=refRight_any _ l w HV.out (by omega)
  cases hrt:rightL l with
  |false=>
   rw[if_pos hrt] at hD;rw[hrt] at hright;have HD:=qH hD;have fX:=qH hright;clear hD hright hrt hl hl2;go_enter Tryz.func132,Tryz.ntmps132;go_wp2_with fail
   refine fX.out.mono ?_;rintro e w1⟨rfl,ad⟩;have HB:=qH ad;clear ad;go_wp2
   go_ret3
   exact GivesRD.err HD.out HB.out
  |true=>
   rw[if_neg (by rw[hrt];simp)] at hD;rw[hrt] at hright;have fX:=qH hright;obtain⟨b,off,rfl,hb,hc0⟩:=rb_cell HV.out (k:=0) (by omega);obtain⟨_,_,gl,_,hc1⟩:=rb_cell HV.out (k:=1) (by omega);injection gl with gl;injection gl with e1 e2 _;subst e1;subst e2;have hg0:l.getD 0 0=l[0]'(by omega):=by rw[List.getD_eq_getElem?_getD,List.getElem?_eq_getElem (by omega)];rfl
   have hg1:l.getD 1 0=l[1]'(by omega):=by rw[List.getD_eq_getElem?_getD,List.getElem?_eq_getElem (by omega)];rfl
   have du:refRows l=refG l (l.getD 1 0).toNat 0 252 []:=rfl;rw[hg0] at hD;rw[hg1] at du;obtain⟨x,hx⟩:∃x,x=l[0]'(by omega):=⟨_,rfl⟩
   obtain⟨x1,hx1⟩:∃x,x=l[1]'(by omega):=⟨_,rfl⟩
   rw[←hx] at hD hc0;rw[←hx1] at du hc1;unfold bv at hc0 hc1;have sQ:=x.toNat_lt;have sz:=x1.toNat_lt;obtain⟨lev,eh⟩:∃n,n=x.toNat:=⟨_,rfl⟩
   obtain⟨n,hn⟩:∃n,n=x1.toNat:=⟨_,rfl⟩
   rw[←eh] at hD hc0 sQ;rw[←hn] at du hc1 sz;rw[Nat.add_zero] at hc0;rw[du] at hD;have HD:=qH hD;have mT:=qH hc0;have hrow:=fun(i e:Nat) (hi:i≤255) (he:e≤252) W hW=>refRow_any (.slice (some ⟨b,off,none⟩) l.length c) l hl2 i e hi he W hW
   have Fa:=qH hrow;clear hright hrt hl hl2 hg0 hg1 hx hx1 eh hn du hD hc0 hrow;go_enter Tryz.func132,Tryz.ntmps132;go_wp2_with fail
   refine fX.out.mono ?_;rintro e w1⟨rfl,ad⟩;have HB:=qH ad;clear ad;go_wp2
   go_loopw [5,6,7] (fun out en i wr=>∃(k e:Nat) (acc:List Rw),k≤n∧e≤252∧i= .int .i64 k∧en= .int .i64 e∧acc.length=k∧OR 5 78 wr w.heap.size out acc∧Below w.heap.size w wr∧refG l (n-k) k e acc=refG l n 0 252 [])
    (fun _ _ i _=>n-(intOf i).toNat)
   case atStart=>exact⟨0,252,[],Nat.zero_le _,Nat.le_refl _,rfl,rfl,rfl,OR.nil_ _ _ _ _,HB.out,rfl⟩
   case round=>
    obtain⟨k,e,acc,hk,he,rfl,rfl,hal,aK,ad,heq⟩:=hrel;have ir:=qH hal;have hsz:=ad.size;have iz:=(ad.cell (p:=⟨b,off+1,none⟩) hb).trans hc1;clear hal HB;by_cases hlt:k<n
    ·rw[refG_step l rfl hlt] at heq
     have hcall:=Fa.out k e (by omega) he wr (HV.out.below ad)
     cases hr:refRow l k e with
     |none=>
      rw[hr] at hcall heq;simp only[] at heq;have HC:=qH hcall;have hd:=HD.out;rw[←heq] at hd;have AS:=qH (show refDec l=(0,[],11) from hd);have HB:=qH ad;clear hcall heq hr hd ad aK;go_wp2_with fail
      refine HC.out.mono ?_;rintro e' w2⟨kk,u,y,ul,rfl,dQ,hb2,_⟩;obtain⟨Au,cu,rfl⟩:=dQ.shape;have ae:=qH (HB.out.trans (hb2.mono hsz));have bm:=ae.out.size;clear dQ hb2;go_wp2
      go_ret3
      exact GivesRD.err AS.out (ae.out.alloc bm _)
     |some rs=>
      obtain⟨⟨rk,rv⟩,s⟩:=rs;have hs:=refRow_lt hr;rw[hr] at hcall heq;simp only[] at heq;have HC:=qH hcall;have HE:=qH heq;have HB:=qH ad;have HO:=qH aK;clear hcall heq hr ad aK;go_wp2_with fail
      refine HC.out.mono ?_;rintro e' w2⟨kk,u,y,ul,rfl,dQ,hb2,hsp⟩;obtain⟨e1,e2,e3⟩:=hsp _ _ rfl;simp only[] at e1 e2;subst e1;subst e2;subst e3;obtain⟨Au,cu,rfl⟩:=dQ.shape;have hb3:Below w.heap.size w w2:=HB.out.trans (hb2.mono hsz);have bA:=hb3.alloc hb3.size (Obj.cells #[.string kk,.slice Au ul.length cu] 78);have aA:=bA.alloc bA.size (Obj.cells #[.string kk,.slice Au ul.length cu] 78);have fJ:=((HO.out.below hb2).alloc (Obj.cells #[.string kk,.slice Au ul.length cu] 78)).alloc (Obj.cells #[.string kk,.slice Au ul.length cu] 78);have dn:=((dQ.base_ (base':=w.heap.size) hsz).below ((Below.refl _ _).alloc (Nat.le_refl _) (Obj.cells #[.string kk,.slice Au ul.length cu] 78))).below ((Below.refl _ _).alloc (Nat.le_refl _) (Obj.cells #[.string kk,.slice Au ul.length cu] 78));obtain⟨us,ah,ho,bC⟩:=fJ;have jH:=qH (show us.length=acc.length by rw[←ah,List.length_map]);have ce:=qH ah;have bm:=hb3.size;clear dQ hb2 hb3 bA ah HC hsp;go_wp2_with (at_builtin;refine wpList_own rfl (.tmp 37) (.tmp 39) 40 40 rfl w.heap.size 78 (.agg #[.string ⟨#[]⟩,.slice none 0 0]) 2 40 Tryz.underlying40 info78 rfl rfl ho rfl (src_two _ (by simp) Tryz.underlying40 78 _ _ rfl rfl) aA (Nat.le_refl _) ?_ ?_ ?_ ?_)
      ·have:=jH.out;have:=ir.out;unfold maxLen;omega
      ·have:=jH.out;have:=ir.out;omega
      ·simp;omega
      intro v' w4 ho' hb4 hg4;have aM:=OR.push (by decide) ho bC dn ho' hg4;rw[ce.out] at aM;have jp:=qH aM;have ai:=qH hb4;clear ho bC dn ho' hg4 aM hb4;go_wp2;go_roundw
      case rel=>exact⟨k+1,s,_,by omega,by omega,by go_num,rfl,by rw[List.length_append,ir.out];rfl,jp.out,ai.out,HE.out⟩
      case measure=>simp[intOf];omega
    ·have ek:k=n:=by omega
     rw[ek,Nat.sub_self,refG] at heq;have hd:=HD.out;rw[←heq] at hd;simp only[] at hd;have hz0:=(ad.cell (p:=⟨b,off,none⟩) hb).trans mT.out;have hE:∀W u,RR W u acc→_:=fun W u hu=>refEnc_any (lev:Int) u acc W hu
     have HE:=qH hE;have HB:=qH ad;have HO:=qH aK;obtain⟨A2,c2,rfl⟩:=or_shape aK;clear heq hE ad aK HD ek;have rL:=fun W hW=>str22 (w:=W) (v:= .slice (some ⟨b,off,none⟩) l.length c) (l:=l) hW
     have fE:=qH rL;clear rL
     cases hok:pageOk (lev:Int) acc with
     |false=>
      rw[if_neg (by rw[hok];simp)] at hd;have HD:=qH hd;have bq:=qH hok;clear hd hok;go_wp2_with fail
      refine(HE.out _ _ HO.out.rr).mono ?_;rintro e' w3⟨v3,rfl,cT,ad⟩;have ak:=qH (HB.out.trans (ad.mono HB.out.size));rw[bq.out];obtain⟨A3,c3,rfl,_⟩:=own_shape cT;clear ad cT;go_wp2
      go_ret3
      exact GivesRD.err HD.out ak.out
     |true=>
      have bq:=qH hok;have ef:(encL (lev:Int) acc==l)=decide (encL (lev:Int) acc=l):=by
       rw[Bool.eq_iff_iff];simp
      by_cases heq:encL (lev:Int) acc=l
      ·rw[if_pos ⟨hok,heq⟩] at hd
       rw[decide_eq_true heq] at ef;have HD:=qH hd;have dd:=qH ef;clear hd hok ef heq;go_wp2_with fail
       refine(HE.out _ _ HO.out.rr).mono ?_;rintro e' w3⟨v3,rfl,cT,ad⟩;have ak:=qH (HB.out.trans (ad.mono HB.out.size));have jC:=qH (HO.out.below ad);have Ci:=str22 (RB.own cT);have kC:=fE.out _ (HV.out.below ak.out);have ef:=dd.out;have hz3:=(ak.out.cell (p:=⟨b,off,none⟩) hb).trans mT.out;rw[bq.out];obtain⟨A3,c3,rfl,_⟩:=own_shape cT;clear ad cT;go_wp2
       go_ret3
       exact GivesRD.ok HD.out jC.out ak.out
      ·rw[if_neg (fun h=>heq h.2)] at hd
       rw[decide_eq_false heq] at ef;have HD:=qH hd;have dd:=qH ef;clear hd hok ef heq;go_wp2_with fail
       refine(HE.out _ _ HO.out.rr).mono ?_;rintro e' w3⟨v3,rfl,cT,ad⟩;have ak:=qH (HB.out.trans (ad.mono HB.out.size));have Ci:=str22 (RB.own cT);have kC:=fE.out _ (HV.out.below ak.out);have ef:=dd.out;have hz3:=(ak.out.cell (p:=⟨b,off,none⟩) hb).trans mT.out;rw[bq.out];obtain⟨A3,c3,rfl,_⟩:=own_shape cT;clear ad cT;go_wp2
       go_ret3
       exact GivesRD.err HD.out ak.out
end Go.Proofs.YtmbkaedhllfoeaaGreat
