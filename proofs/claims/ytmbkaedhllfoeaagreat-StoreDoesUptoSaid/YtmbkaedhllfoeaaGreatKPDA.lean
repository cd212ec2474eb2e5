/-
  Texts of the proof, put together.
-/
import Derived.Laws.CopyOwn
import Derived.Test.YtmbkaedhllfoeaaGreatKPBC
import Derived.Test.YtmbkaedhllfoeaaGreatKPCJ
import Derived.Test.YtmbkaedhllfoeaaGreatKPWr
set_option maxRecDepth 100000
set_option maxHeartbeats 4000000
set_option linter.unusedVariables false
namespace Go.Proofs.YtmbkaedhllfoeaaGreat
open Go.RowKit Go.Rst Go.Pg Go.Crc
theorem info206:(Tryz.prog.info? 206).map (fun i=>(i.zero,i.size,i.bytes))=some (some (.agg (Array.replicate 256 (.int .u8 0))),256,256):=by kernel_rfl
theorem zero256:∀w,(zeroValue 206).run Tryz.prog w= .ok (.agg (Array.replicate 256 (.int .u8 0))) w:=by
 intro w;obtain⟨i,hi,hz,_,_⟩:=info_parts info206;simp[zeroValue,typeInfo,hi,hz]
theorem page_from(W:World)(H Q:Nat)(h:Q<256):(Instr.sliceAt 206 (.pointer (some ⟨H,0,none⟩)) (some (.int .i64 (Q:Int))) none none).run Tryz.prog W= .ok (.slice (some ⟨H,Q,none⟩) (256-Q) (256-Q)) W:=by
 have ha:Tryz.prog.arrayLen 206=256:=by kernel_rfl
 have he:Tryz.prog.elem 206=5:=by kernel_rfl
 obtain⟨i,hi,_,hs,_⟩:=info_parts info5;rw[run_sliceAt_array_l W 206 _ (by rw[ha,he];exact Tryz.underlying206) .i64 (Q:Int) (by omega) (by rw[ha];omega),ha,he];simp[sizeOf,typeInfo,hi,hs,slicedAt,Result.andThen,show ¬256=Q from by omega,Addr.add];exact fun h=>h.symm
def PB(w:World)(g:Nat)(P:List UInt8):Prop:=P.length=252∧Blk w g 206 (bvs (P++ [0,0,0,0])).toArray
theorem PB.lt{w:World}{g:Nat}{P:List UInt8}(h:PB w g P):g<w.heap.size:=h.2.lt
theorem PB.start{w:World}{lev n:UInt8}{Z:Array Value}(hZ:Z=Array.replicate 256 (.int .u8 0)):
  PB (w.alloc (.cells ((Z.setIfInBounds 0 (bv lev)).setIfInBounds 1 (bv n)) 206)) w.heap.size (pageA lev n [] []):=by
 subst hZ;refine⟨by rw[pageA_length (by simp)],?_⟩;have e1:List.replicate 250 (0:UInt8)++ [0,0,0,0]=List.replicate 254 0:=by
  rw[show([0,0,0,0]:List UInt8)=List.replicate 4 0 from rfl,List.replicate_append_replicate]
 have e2:List.replicate 256 (Value.int .u8 0)= .int .u8 0:: .int .u8 0::List.replicate 254 (.int .u8 0):=by
  rw[show(256:Nat)=254+1+1 from rfl,List.replicate_succ,List.replicate_succ]
 have e3:bvs (List.replicate 254 0)=List.replicate 254 (.int .u8 0):=by unfold bvs;rw[List.map_replicate];rfl
 have e:((Array.replicate 256 (Value.int .u8 0)).setIfInBounds 0 (bv lev)).setIfInBounds 1 (bv n)=(bvs (pageA lev n [] []++ [0,0,0,0])).toArray:=by
  rw[pageA_nil,List.cons_append,List.cons_append,e1,←List.toArray_replicate,e2,List.setIfInBounds_toArray,List.setIfInBounds_toArray,List.set_cons_zero,List.set_cons_succ,List.set_cons_zero,←e3];rfl
 rw[e];exact heap_alloc_new w _
theorem PB.below{B:Nat}{w w':World}{g:Nat}{P:List UInt8}(h:PB w g P)(hb:Below B w w')(hg:g<B):PB w' g P:=⟨h.1,h.2.below hb hg⟩
theorem PB.rb{w:World}{g:Nat}{P:List UInt8}(h:PB w g P):RB w (.slice (some ⟨g,0,none⟩) 252 256) P:=by
 refine⟨_,256,by rw[h.1],by rw[h.1];decide,by decide,.inr ⟨g,0,rfl,h.2.lt,fun j hj=>?_⟩⟩;rw[Nat.zero_add,h.2.cell,bva_get (by rw[List.length_append];omega)]
 congr 2
 rw[List.getElem_append_left hj]
theorem PB.set_{w:World}{g:Nat}{P:List UInt8}(h:PB w g P)(k:Nat)(hk:k<252)(c:UInt8):PB (w.setCell ⟨g,k,none⟩ (bv c)) g (P.set k c):=by
 refine⟨by rw[List.length_set,h.1],?_⟩;have:=h.2.set_ k (bv c);have e:(bvs (P++ [0,0,0,0])).toArray.setIfInBounds k (bv c)=(bvs (P.set k c++ [0,0,0,0])).toArray:=by
  rw[List.setIfInBounds_toArray];unfold bvs;rw[←List.map_set,List.set_append_left _ _ (by rw[h.1];exact hk)]
 rw[e] at this;exact this
theorem bvs_splice(P row:List UInt8)(at_:Nat):splice (bvs P) at_ (bvs row)=bvs (P.take at_++(row++P.drop (at_+row.length))):=by
 unfold splice bvs;simp[List.map_take,List.map_drop]
theorem page_splice{lev n:UInt8}{ss bd row:List UInt8}(h:ss.length+row.length+bd.length≤250):
  splice (bvs (pageA lev n ss bd++ [0,0,0,0])) (252-bd.length-row.length) (bvs row)=bvs (pageA lev n ss (row++bd)++ [0,0,0,0]):=by
 have hl:(pageA lev n ss bd).length=252:=pageA_length (by omega);rw[bvs_splice,←pageA_lay h,List.take_append_of_le_length (by omega),List.drop_append_of_le_length (by omega)];simp only[List.append_assoc]
theorem enc_low(lev:Int)(h:lev<0∨4<lev)(v:Value)(rs:List Rw)(w:World)(hv:RR w v rs):
  Calls Tryz.prog 114 #[.int .i64 lev,v] w (GivesEnc w lev rs):=by
 have E:=qH (show pageOk lev rs=false by unfold pageOk;simp;omega);obtain⟨A,c,rfl,hlc,hc,_⟩:=hv;rcases h with h|h
 ·go_enter Tryz.func114,Tryz.ntmps114
  go_wp2
  go_ret2
  exact GivesEnc.not E.out (Below.refl _ _)
 ·have h0:0≤lev:=by omega
  go_enter Tryz.func114,Tryz.ntmps114;go_wp2
  go_ret2
  exact GivesEnc.not E.out (Below.refl _ _)
theorem enc_full(lev:Int)(h0:0≤lev)(h4:lev≤4)(v:Value)(rs:List Rw)(hf:fitN rs<rs.length)(w:World)(hv:RR w v rs):
  Calls Tryz.prog 114 #[.int .i64 lev,v] w (GivesEnc w lev rs):=by
 have E:=qH (show pageOk lev rs=false by unfold pageOk;simp;omega);have hc:=fit_any v rs w hv;obtain⟨A,c,rfl,_⟩:=hv;have hf':((fitN rs:Nat):Int)<(rs.length:Int):=by omega
 go_enter Tryz.func114,Tryz.ntmps114;go_wp2_with fail
 refine hc.mono ?_;rintro e w1⟨rfl,ad⟩;have HB:=qH ad;clear ad;go_wp2
 go_ret2
 exact GivesEnc.not E.out HB.out
theorem enc_fits(lev:Nat)(h4:lev≤4)(v:Value)(rs:List Rw)(hf:fitN rs=rs.length)(w:World)(hv:RR w v rs):
  Calls Tryz.prog 114 #[.int .i64 lev,v] w (GivesEnc w lev rs):=by
 have E:=qH (show pageOk lev rs=true by unfold pageOk;simp;omega);have hcall:=fit_any v rs w hv;rw[hf] at hcall;obtain⟨ah,hok⟩:=(fitN_all rs).1 hf;have bq:=qH hok;have dq:rs.length+(body rs).length≤250:=ah;have ce:=qH ah;have HV:=qH hv;have hlen:rs.length≤250:=by omega
 obtain⟨A,c,rfl,_⟩:=hv;have hbl:=bv_nat (show lev<256 by omega);have qB:=bv_nat (show rs.length<256 by omega);obtain⟨Z,hZ⟩:∃Z,Z=Array.replicate 256 (Value.int .u8 0):=⟨_,rfl⟩
 have vj:=zero256;rw[←hZ] at vj;have HZ:=qH hZ;have hz0:Z[0]? =some (.int .u8 0):=by rw[hZ];simp
 have hz1:Z[1]? =some (.int .u8 0):=by rw[hZ];simp
 have fy:=qH hbl;have iW:=qH qB;clear hZ hbl qB hok ah dq hf;go_enter Tryz.func114,Tryz.ntmps114;go_wp2_with fail
 refine hcall.mono ?_;rintro e w1⟨rfl,ad⟩;have HB:=qH ad;have pI:=qH (rr_below HV.out ad (Nat.le_refl _));have hsz1:=ad.size;clear ad hcall;go_wp2;have hP:PB (w1.alloc (.cells ((Z.setIfInBounds 0 (.int .u8 lev)).setIfInBounds 1 (.int .u8 rs.length)) 206)) w1.heap.size (pageA (UInt8.ofNat lev) (UInt8.ofNat rs.length) [] []):=by
  rw[fy.out,iW.out];exact PB.start HZ.out
 have wu:Below w.heap.size w (w1.alloc (.cells ((Z.setIfInBounds 0 (.int .u8 lev)).setIfInBounds 1 (.int .u8 rs.length)) 206)):=HB.out.alloc hsz1 _;obtain⟨H,hH⟩:∃H,H=w1.heap.size:=⟨_,rfl⟩
 rw[←hH] at hP⊢;have yo:w.heap.size≤H:=by omega
 have HH:=qH hH;have HP:=qH hP;have uq:=qH wu;clear hP wu hH vj hz0 hz1 pI
 go_loopw [7,33] (fun at_ i wr=>∃k:Nat,k≤rs.length∧i= .int .i64 k∧(∃T:Nat,T+(body (rs.take k)).length=252∧at_= .int .i64 T)∧PB wr H (pageA (UInt8.ofNat lev) (UInt8.ofNat rs.length) (slots (rs.take k)) (body (rs.take k)))∧Below w.heap.size w wr)
  (fun _ i _=>rs.length-(intOf i).toNat)
 case atStart=>exact⟨0,Nat.zero_le _,rfl,⟨252,rfl,rfl⟩,HP.out,uq.out⟩
 case round=>
  obtain⟨k,hk,rfl,⟨T,hT,rfl⟩,hP,ad⟩:=hrel;have vy:=body_len k rs;have ah:=ce.out;have dq:rs.length+(body rs).length≤250:=ah;by_cases hlt:k<rs.length
  ·obtain⟨b,off,u,rfl,hx0,hy0,fl⟩:=rr_at HV.out hlt
   have hb:b<w.heap.size:=by
    obtain⟨A',c',he,_,_,h3⟩:=HV.out;injection he with e1 _ _;rcases h3 with rfl|⟨b',off',h4,h5,_⟩
    ·simp at hlt
    ·rw[h4] at e1;injection e1 with e1;injection e1 with e1 _ _;omega
   have hx:=(ad.cell (p:=⟨b,off+k*2,none⟩) hb).trans hx0;have hy:=(ad.cell (p:=⟨b,off+k*2+1,none⟩) hb).trans hy0;have bi:=fl.below ad;have hok:=bq.out rs[k] (List.getElem_mem hlt);have hb1:=body_take hlt;have hb2:=body_len (k+1) rs;have hst:=slots_take hlt;have hsl:=slots_length (rs.take k);rw[List.length_take,Nat.min_eq_left hk] at hsl;rw[hb1,List.length_append] at hb2;have gr:slot (rs.take (k+1))=UInt8.ofNat (252-((rowB rs[k]).length+(body (rs.take k)).length)):=by unfold slot;rw[hb1,List.length_append]
   rw[gr] at hst;have an:=qH hb1;have HST:=qH hst;generalize rs[k]=r at *;obtain⟨key,l⟩:=r;simp only[] at hx hy bi hok;obtain⟨A2,c2,rfl,g1,g2,_⟩:∃A2 c2,u= .slice A2 l.length c2∧l.length≤c2∧c2≤maxLen∧True:=by
    obtain⟨A2,c2,h,h1,h2,_⟩:=bi;exact⟨A2,c2,h,h1,h2,trivial⟩
   unfold maxLen at g2;generalize body (rs.take k)=bd at *;generalize slots (rs.take k)=ss at *;obtain⟨row,hrow⟩:∃row,row=rowB (key,l):=⟨_,rfl⟩
   rw[←hrow] at hb2 an HST gr;have jR:=rowB_pos (key,l);rw[←hrow] at jR;have hrow2:rowL key.data.toList l=row:=hrow.symm;have hkey:key.size≤30:=hok.1;have hval:l.length≤150:=hok.2;have hcall:=fun W hW=>row_any key (.slice A2 l.length c2) l (by omega) (by omega) W hW
   rw[hrow2] at hcall;have HL:=qH hcall;have jY:=qH hP;have ae:=qH ad;have HR:=qH bi;have hsz:=ad.size;have CN:=hP.lt;clear hP ad bi hcall hrow hrow2 hb1 hst gr hx0 hy0 fl hok HP uq bq;go_wp2_with fail
   refine(HL.out _ (HR.out.alloc _)).mono ?_;rintro e w2⟨v2,rfl,hown2,ag⟩;have hb3:Below w.heap.size w w2:=(ae.out.alloc hsz _).trans (ag.mono (by simp;omega));have gC:PB w2 H _:=(jY.out.below ((Below.refl wr.heap.size wr).alloc (Nat.le_refl _) (Obj.cells #[Value.string key,.slice A2 l.length c2] 78)) CN).below ag (by simp;omega);have bZ:=RB.own hown2;obtain⟨A3,c3,rfl,g3⟩:=own_shape hown2;obtain⟨b3,o3,rfl,Dz,_⟩:=rb_cell bZ (k:=0) (by omega);have Ev:(row.length:Int)≤250:=by omega
   have BM:(c3:Int)≤9223372036854775807:=by
    obtain⟨_,_,he,_,h3,_⟩:=bZ;injection he with _ _ e3;subst e3;unfold maxLen at h3;omega
   obtain⟨R,hR⟩:∃R,R=row.length:=⟨_,rfl⟩
   obtain⟨Q,hQ⟩:∃Q,Q=T-R:=⟨_,rfl⟩
   have IE:(T:Int)-(R:Int)=(Q:Int):=by omega
   have In:Q+R+bd.length=252:=by omega
   have IT:(Q:Int)<256:=by omega
   have IN:(0:Int)≤(Q:Int):=by omega
   have j1:=qH bZ;have ak:=qH hb3;have AC:=qH gC;have uc:=page_splice (lev:=UInt8.ofNat lev) (n:=UInt8.ofNat rs.length) (ss:=ss) (bd:=bd) (row:=row) (by omega);rw[show 252-bd.length-row.length=Q from by omega] at uc;have Du:=qH uc;obtain⟨cur,sj⟩:∃cur,cur=bvs (pageA (UInt8.ofNat lev) (UInt8.ofNat rs.length) ss bd++ [0,0,0,0]):=⟨_,rfl⟩
   have hblk:=gC.2;rw[←sj] at hblk Du;have hcl:cur.length=256:=by rw[sj,bvs_length,List.length_append,gC.1];rfl
   have kM:=qH hblk;have l9:=qH hcl;rw[←hR] at Ev g3 jR⊢;have bM:=qH hR;obtain⟨xs,hxs⟩:∃xs,xs=bvs row:=⟨_,rfl⟩
   have AL:=qH hxs;have Fu:=fun W=>page_from W H Q (by omega)
   clear hown2 ag hb3 bZ gC jY uc sj hblk hcl hR hQ HL HR hx hy;go_wp2_with (refine wpList_copy_splice rfl (.tmp 45) (.tmp 46) 46 46 rfl 5 Tryz.underlying46 one5 (some ⟨H,Q,none⟩) (some ⟨b3,o3,none⟩) (256-Q) (256-Q) R c3 rfl rfl H Q cur 206 kM.out xs ?h1 ?h2 ?h3 ?h4 w.heap.size w ak.out yo ?_)
   case h1=>rw[AL.out,bvs_length,←bM.out];show R=min R (256-Q);omega
   case h2=>
    intro _;intro j u hu;try rw[AL.out] at hu
    have hj:j<row.length:=by have:=(List.getElem?_eq_some_iff.1 hu).1;simpa [bvs_length] using this
    obtain⟨b',o',he,_,hcell⟩:=rb_cell j1.out hj;injection he with he;injection he with e1 e2 _;subst e1;subst e2;try rw[Addr.add_lit]
    rw[hcell,←hu,bvs_get hj]
   case h3=>rw[AL.out,l9.out,bvs_length,←bM.out];omega
   case h4=>rw[AL.out];exact bvs_one
   intro w3 HG aA;rw[Du.out] at HG;have hG:PB w3 H (pageA (UInt8.ofNat lev) (UInt8.ofNat rs.length) ss (row++bd)):=⟨pageA_length (by rw[List.length_append];omega),HG.out⟩
   have bQ:=hG.set_ (2+k) (by omega) (UInt8.ofNat Q);rw[show 2+k=2+ss.length from by omega,pageA_slot _ (by rw[List.length_append];omega)] at bQ;obtain⟨xb,hx2⟩:∃xb:UInt8,w3.cell? ⟨H,2+k,none⟩=some (bv xb):=⟨_,(hG.2.cell (2+k)).trans (bva_get (by rw[List.length_append,hG.1];omega))⟩
   have hfz:=hG.2.frozen (2+k);have gh:=qH bQ;have ai:=qH aA;have tq:=bv_nat (show Q<256 by omega);have uD:=qH tq;unfold bv at hx2;clear hG bQ HG aA tq Du;go_wp2;go_roundw
   case rel=>
    refine⟨k+1,by omega,by go_num,⟨Q,by rw[an.out,List.length_append,←bM.out];omega,rfl⟩,?_,ai.out.setCell yo _⟩;rw[an.out,HST.out,←bM.out,show 252-(R+bd.length)=Q from by omega,uD.out];have:=gh.out;rw[show 2+ss.length=2+k from by omega] at this;exact this
   case measure=>simp[intOf];omega
  ·have e:k=rs.length:=by omega
   rw[e,List.take_length] at hP;rw[page_end] at hP;have bZ:=hP.rb;have HR:=qH bZ;have ae:=qH ad;have hsz:=ad.size;have yS:=hP.1;clear hP ad e HP uq vy;go_wp2_with fail
   refine(seal_any _ _ _ HR.out (by omega)).mono ?_;rintro e w3⟨v3,rfl,hown,ad⟩;have HO:=qH (own_base hown hsz);have ak:=qH (ae.out.trans (ad.mono hsz));clear hown ad;go_wp2
   go_ret2
   exact GivesEnc.mk E.out (by simpa using HO.out) ak.out
theorem enc_any(lev:Int)(v:Value)(rs:List Rw)(w:World)(hv:RR w v rs):
  Calls Tryz.prog 114 #[.int .i64 lev,v] w (GivesEnc w lev rs):=by
 by_cases h:lev<0∨4<lev
 ·exact enc_low lev h v rs w hv
 ·obtain⟨n,rfl⟩:=Int.eq_ofNat_of_zero_le (show 0≤lev by omega)
  have:=fitN_le rs;by_cases hf:fitN rs<rs.length
  ·exact enc_full n (by omega) (by omega) v rs hf w hv
  ·exact enc_fits n (by omega) v rs (by omega) w hv
def GivesDec(w:World)(r:Nat×List Rw×Nat)(e:Ending)(w':World):Prop:=
 ∃v,e= .returned (.tuple #[.int .i64 r.1,v,.int .u16 r.2.2])∧OR 5 78 w' w.heap.size v r.2.1∧Below w.heap.size w w'
theorem GivesDec.err{w w':World}{r:Nat×List Rw×Nat}{x:Nat}(h:r=(0,[],x))(hb:Below w.heap.size w w'):GivesDec w r (.returned (.tuple #[.int .i64 0,.slice none 0 0,.int .u16 x])) w':=by
 subst h;exact⟨_,rfl,OR.nil_ _ _ _ _,hb⟩
theorem GivesDec.ok{w w':World}{r:Nat×List Rw×Nat}{n:Nat}{rs:List Rw}{v:Value}(h:r=(n,rs,0))(ho:OR 5 78 w' w.heap.size v rs)(hb:Below w.heap.size w w'):GivesDec w r (.returned (.tuple #[.int .i64 n,v,.int .u16 0])) w':=by
 subst h;exact⟨_,rfl,ho,hb⟩
theorem dec_any(v:Value)(l:List UInt8)(w:World)(hv:RB w v l):
  Calls Tryz.prog 85 #[v] w (GivesDec w (decR l)):=by
 have HV:=qH hv;have hright:=right_any v l w hv;obtain⟨A,c,rfl,hlc,hc,_⟩:=hv;unfold maxLen at hc;have hD:decR l=if l.length≠256 then (0,[],11) else if rightL l=false then (0,[],12) else match slotted l with
  |none=>(0,[],11)
  |some r=>if pageOk ((l.getD 0 0).toNat:Int) r=true∧encL ((l.getD 0 0).toNat:Int) r=l then ((l.getD 0 0).toNat,r,0) else (0,[],11):=rfl
 by_cases hl:l.length≠256
 ·rw[if_pos hl] at hD
  have HD:=qH hD;have hne:((l.length:Int) !=256)=true:=by simp;omega
  clear hD hright;go_enter Tryz.func85,Tryz.ntmps85;go_wp2
  go_ret3
  exact GivesDec.err HD.out (Below.refl _ _)
 ·rw[if_neg hl] at hD
  have hl2:l.length=256:=by omega
  have hne:((l.length:Int) !=256)=false:=by simp;omega
  have HL:=qH hl2;have hs:=fun W hW=>slotted_any (.slice A l.length c) l hl2 W hW
  have vT:(0:Int)<(l.length:Int):=by omega
  cases hrt:rightL l with
  |false=>
   rw[if_pos hrt] at hD;rw[hrt] at hright;have HD:=qH hD;have fX:=qH hright;clear hD hright hs hrt hl hl2;go_enter Tryz.func85,Tryz.ntmps85;go_wp2_with fail
   refine fX.out.mono ?_;rintro e w1⟨rfl,ad⟩;have HB:=qH ad;clear ad;go_wp2
   go_ret3
   exact GivesDec.err HD.out HB.out
  |true=>
   rw[if_neg (by rw[hrt];simp)] at hD;rw[hrt] at hright;have fX:=qH hright;have HS:=qH hs;obtain⟨b,off,rfl,hb,hc0⟩:=rb_cell HV.out (k:=0) (by omega);have hg0:l.getD 0 0=l[0]'(by omega):=by rw[List.getD_eq_getElem?_getD,List.getElem?_eq_getElem (by omega)];rfl
   rw[hg0] at hD;obtain⟨x,hx⟩:∃x,x=l[0]'(by omega):=⟨_,rfl⟩
   rw[←hx] at hD hc0;unfold bv at hc0;have sQ:=x.toNat_lt;obtain⟨lev,eh⟩:∃n,n=x.toNat:=⟨_,rfl⟩
   rw[←eh] at hD hc0 sQ;rw[Nat.add_zero] at hc0;clear hright hs hrt hl hl2 hg0 hx eh
   cases hsl:slotted l with
   |none=>
    rw[hsl] at hD HS;have HD:=qH hD;clear hD hsl;go_enter Tryz.func85,Tryz.ntmps85;go_wp2_with fail
    refine fX.out.mono ?_;rintro e w1⟨rfl,ad⟩;have HB:=qH ad;have pI:=qH (HV.out.below ad);have hc1:=(ad.cell (p:=⟨b,off,none⟩) hb).trans hc0;clear ad;go_wp2_with fail
    refine(HS.out _ pI.out).mono ?_;rintro e w2⟨v2,rfl,ho,ad⟩;have ae:=qH (HB.out.trans (ad.mono HB.out.size));obtain⟨A2,c2,rfl⟩:=or_shape ho;clear ad ho;go_wp2
    go_ret3
    exact GivesDec.err HD.out ae.out
   |some rs=>
    rw[hsl] at hD HS;simp only[] at hD;have hE:∀W u,RR W u rs→_:=fun W u hu=>enc_any (lev:Int) u rs W hu
    have HE:=qH hE;clear hsl hE
    cases hok:pageOk (lev:Int) rs with
    |false=>
     rw[if_neg (by rw[hok];simp)] at hD;have HD:=qH hD;have bq:=qH hok;clear hD hok;go_enter Tryz.func85,Tryz.ntmps85;go_wp2_with fail
     refine fX.out.mono ?_;rintro e w1⟨rfl,ad⟩;have HB:=qH ad;have pI:=qH (HV.out.below ad);have hc1:=(ad.cell (p:=⟨b,off,none⟩) hb).trans hc0;clear ad;go_wp2_with fail
     refine(HS.out _ pI.out).mono ?_;rintro e w2⟨v2,rfl,ho,ad⟩;have ae:=qH (HB.out.trans (ad.mono HB.out.size));have HO:=qH ho.rr;obtain⟨A2,c2,rfl⟩:=or_shape ho;clear ad ho;go_wp2_with fail
     refine(HE.out _ _ HO.out).mono ?_;rintro e w3⟨v3,rfl,cT,ad⟩;have ak:=qH (ae.out.trans (ad.mono ae.out.size));rw[bq.out];obtain⟨A3,c3,rfl,_⟩:=own_shape cT;clear ad cT;go_wp2
     go_ret3
     exact GivesDec.err HD.out ak.out
    |true=>
     have bq:=qH hok;by_cases heq:encL (lev:Int) rs=l
     ·rw[if_pos ⟨hok,heq⟩] at hD
      have HD:=qH hD;have ef:(encL (lev:Int) rs==l)=true:=by simp[heq]
      have dd:=qH ef;clear hD hok ef heq;go_enter Tryz.func85,Tryz.ntmps85;go_wp2_with fail
      refine fX.out.mono ?_;rintro e w1⟨rfl,ad⟩;have HB:=qH ad;have pI:=qH (HV.out.below ad);have hc1:=(ad.cell (p:=⟨b,off,none⟩) hb).trans hc0;clear ad;go_wp2_with fail
      refine(HS.out _ pI.out).mono ?_;rintro e w2⟨v2,rfl,ho,ad⟩;have ae:=qH (HB.out.trans (ad.mono HB.out.size));have HO:=qH ho;obtain⟨A2,c2,rfl⟩:=or_shape ho;clear ad ho;go_wp2_with fail
      refine(HE.out _ _ HO.out.rr).mono ?_;rintro e w3⟨v3,rfl,cT,ad⟩;have ak:=qH (ae.out.trans (ad.mono ae.out.size));have jC:=qH (HO.out.below ad);have bO:=qH (RB.own cT);rw[bq.out];obtain⟨A3,c3,rfl,_⟩:=own_shape cT;clear ad cT;go_wp2_with fail
      refine(equal_any _ _ _ l _ bO.out (HV.out.below ak.out)).mono ?_;rintro e w4⟨rfl,rfl⟩;rw[dd.out];go_wp2
      go_ret3
      exact GivesDec.ok HD.out (jC.out.base_ HB.out.size) ak.out
     ·rw[if_neg (fun h=>heq h.2)] at hD
      have HD:=qH hD;have ef:(encL (lev:Int) rs==l)=false:=by simpa using heq
      have dd:=qH ef;clear hD hok ef heq;go_enter Tryz.func85,Tryz.ntmps85;go_wp2_with fail
      refine fX.out.mono ?_;rintro e w1⟨rfl,ad⟩;have HB:=qH ad;have pI:=qH (HV.out.below ad);have hc1:=(ad.cell (p:=⟨b,off,none⟩) hb).trans hc0;clear ad;go_wp2_with fail
      refine(HS.out _ pI.out).mono ?_;rintro e w2⟨v2,rfl,ho,ad⟩;have ae:=qH (HB.out.trans (ad.mono HB.out.size));have HO:=qH ho;obtain⟨A2,c2,rfl⟩:=or_shape ho;clear ad ho;go_wp2_with fail
      refine(HE.out _ _ HO.out.rr).mono ?_;rintro e w3⟨v3,rfl,cT,ad⟩;have ak:=qH (ae.out.trans (ad.mono ae.out.size));have bO:=qH (RB.own cT);rw[bq.out];obtain⟨A3,c3,rfl,_⟩:=own_shape cT;clear ad cT;go_wp2_with fail
      refine(equal_any _ _ _ l _ bO.out (HV.out.below ak.out)).mono ?_;rintro e w4⟨rfl,rfl⟩;rw[dd.out];go_wp2
      go_ret3
      exact GivesDec.err HD.out ak.out
end Go.Proofs.YtmbkaedhllfoeaaGreat
