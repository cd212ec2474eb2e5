/-
  Texts of the proof, put together.
-/
import Derived.Test.YtmbkaedhllfoeaaGreatKPFC
import Derived.Test.YtmbkaedhllfoeaaGreatKPWr
set_option maxRecDepth 100000
set_option maxHeartbeats 4000000
set_option linter.unusedVariables false
set_option linter.unusedVariables false
namespace Go.Proofs.YtmbkaedhllfoeaaGreat
open Go.RowKit Go.Rst Go.Dv Go.Crc Go.Str Go.Pg
theorem does_walk(k:Nat)(lv:Value)(ds:List Deed)(w:World)(hk:k≤255)(hd:DS w lv ds)(sA:FewD ds):
  Calls Tryz.prog 3 #[.int .u8 (k:Int),lv] w fun e w'=>e= .returned (.bool true)∧Below w.heap.size w w':=by
 have HD:=qH hd;have Im:=qH sA;have FX:=muchS_any hd;have Gy:=qH FX;obtain⟨A,c,rfl,hl,_⟩:=hd;obtain⟨m,hm⟩:∃m,m=ds.length:=⟨_,rfl⟩
 rw[←hm] at HD hl Gy⊢;have HM:=qH hm;clear hm FX sA;go_enter Tryz.func3,Tryz.ntmps3;go_wp2_with fail
 go_at_call 9;refine Gy.out.mono ?_;rintro e w1⟨r,rfl,hr,hb1⟩;have HR:=qH hr;have an:=qH hb1;have ik:=qH knownS_any;clear hb1 hr
 cases r with
 |true=>
  go_wp2_with fail
  go_at_call 10;refine(ik.out _).mono ?_;rintro e wk⟨rfl,hbk⟩;have kM:=qH (an.out.trans (hbk.mono an.out.size));clear hbk;go_wp2;go_ret;exact⟨rfl,kM.out⟩
 |false=>
  have zx:=qH (show m≤200 by rw[HM.out];exact HR.out rfl Im.out);go_wp2_with fail
  go_at_call 10;refine(ik.out _).mono ?_;rintro e wk⟨rfl,hbk⟩;have kM:=qH (an.out.trans (hbk.mono an.out.size));clear hbk;go_wp2_with fail
  go_at_call 11;refine(pair_any k hk wk).mono ?_;rintro e w2⟨dg,tv,rfl,⟨D,m2,lJ,FK,htr⟩,hb2⟩;obtain⟨o1,o2,o3,o4,o5,o6⟩:=size_open k;obtain⟨z1,z2⟩:=sizeN_in k;obtain⟨S0,me⟩:∃S0,S0=Sim.new (sizeN k):=⟨_,rfl⟩
  obtain⟨Y,hY⟩:∃Y,Y=openedS (Sim.new (sizeN k)):=⟨_,rfl⟩
  have qa:S0.firm.length=sizeN k:=by rw[me,new_firm]
  have JN:S0.loose.length=0:=by rw[me];rfl
  have xk:=qH (show Y.ep=2 by rw[hY];rfl);rw[←hY] at o1 o2 o3 o4;rw[←me] at lJ htr o1 o5 o6;have DE:=(format_can (s:=S0) lJ.ok (by rw[me];rfl) (by rw[me];rfl) (by rw[qa];exact z1)).2.2.2.2.2.2.2;obtain⟨F0,Fs⟩:∃F0,F0=formatS S0:=⟨_,rfl⟩
  have hfmt:=fun X (hX:Below w2.heap.size w2 X)=>format_st (lJ.below hX) (by rw[qa];exact z1) (by omega)
  have hrf:=fun(A':Nat→Prop) (X:World) (ex:Value) (h:TRd A' X ex S0) (hA:∀q,A' q→q<X.heap.size)=>format8_any h lJ.ok hA (by rw[qa];exact z1) (by omega)
  rw[←Fs] at o1 o5 o6 DE hfmt hrf;have hDlt:=lJ.lt;obtain⟨aS,nS,cS,aL,nL,cL,cw,cf,f,lf,rfl⟩:=htr.sixn;have iO:=qH o1;have dK:=qH o5;have jZ:=qH o6;have HI:=qH o2;have zW:=qH o3;have JL:=qH o4;have cm:=qH DE;have CR:=qH hfmt;have gi:=qH hrf;have Cx:=qH hDlt;have Bk:=qH FK;have km:=qH htr;have ae:=qH (kM.out.trans (hb2.mono kM.out.size));have tr:=qH kM.out.size;have Cn:=qH hb2;have ig:=qH (And.intro z1 z2);obtain⟨W3,hW3⟩:∃W3,W3=w2.alloc (Obj.cells #[.slice aS nS cS,.slice aL nL cL,.int .i64 cw,.int .i64 cf,.bool f,.int .i64 lf] 29):=⟨_,rfl⟩
  obtain⟨g12,ut⟩:∃g12,g12=w2.heap.size:=⟨_,rfl⟩
  have hb3:Below w2.heap.size w2 W3:=by rw[hW3];exact(Below.refl _ _).alloc (Nat.le_refl _) _
  have ks:Dv.Blk W3 g12 29 #[.slice aS nS cS,.slice aL nL cL,.int .i64 cw,.int .i64 cf,.bool f,.int .i64 lf]:=by rw[hW3,ut];exact heap_alloc_new w2 _
  have Dq:=qH hW3;have xG:=qH ks;have ak:=qH hb3;have rW:=qH ut;clear lJ FK htr hb2 o1 o2 o3 o4 o5 o6 z1 z2 me hY qa JN DE Fs hfmt hrf hDlt hW3 ut hb3 ks;go_wp2_with fail
  rw[←Dq.out,←rW.out];go_at_call 12;refine(CR.out _ ak.out).mono ?_;rintro e w4⟨rfl,D4,mU,pq,ER⟩;have xH:¬D g12:=fun h=>by have:=Cx.out g12 h;have:=rW.out;omega
  have ks:=xG.out.same (pq.block g12 xG.out.lt xH);have GV:TRd (fun j=>j<m2∨j=g12) W3 (.agg #[.slice aS nS cS,.slice aL nL cL,.int .i64 cw,.int .i64 cf,.bool f,.int .i64 lf]) S0:=km.out.fr (D:=fun _=>False) (Fr.of_below ak.out) (fun _ h=>h.elim) (fun j hj=>hj.imp id fun h=>by have:=rW.out;omega);have qz:TRd (fun j=>D4 j∨j=g12) w4 (.agg #[.slice aS nS cS,.slice aL nL cL,.int .i64 cw,.int .i64 cf,.bool f,.int .i64 lf]) S0:=GV.fr pq (fun j hj=> .inl (Bk.out j hj).2) (fun j hj=>by
   rcases hj with hj|hj
   ·rcases ER j hj with h|h
    ·exact .inl (.inl (Bk.out j h).2)
    ·exact .inr h
   ·exact .inl (.inr hj))
  have wg:=gi.out _ w4 _ qz (fun q hq=>by rcases hq with hq|hq;exact mU.lt q hq;rw[hq];exact ks.lt);have E4:=qH wg;have qA:=qH mU;have xO:∀j,D4 j→wk.heap.size≤j:=fun j hj=>by
   rcases ER j hj with h|h
   ·exact(Bk.out j h).1
   ·have:=ak.out.size;have:=Cn.out.size;omega
  have yF:=qH xO;have Gt:=qH ks;have ai:=qH (ae.out.trans ((ak.out.mono (Nat.le_of_eq rfl)).mono ae.out.size)|>.trans (pq.below (B:=w.heap.size) (fun j hj=>Nat.le_trans tr.out (Bk.out j hj).1) (Nat.le_trans ae.out.size ak.out.size)));obtain⟨z0,z1,z2,z3,z4,z5⟩:=cl6 ks;clear xH ks GV qz wg mU pq ER xO;go_wp2_with fail
  go_at_call 13;refine E4.out.mono ?_;rintro e w5⟨K5,rfl,B5,au⟩;obtain⟨AY,Bm,AG,AA,Az,Am,AO,zN,ff,Ag,rfl⟩:=B5.sixn;obtain⟨W6,iZ⟩:∃W6,W6=w5.alloc (Obj.cells #[.slice AY Bm AG,.slice AA Az Am,.int .i64 AO,.int .i64 zN,.bool ff,.int .i64 Ag] 29):=⟨_,rfl⟩
  obtain⟨g13,tP⟩:∃g13,g13=w5.heap.size:=⟨_,rfl⟩
  have ap:Below w5.heap.size w5 W6:=by rw[iZ];exact(Below.refl _ _).alloc (Nat.le_refl _) _
  have pb:Below w4.heap.size w4 W6:=au.trans (ap.mono au.size);have vM:Dv.Blk W6 g13 29 #[.slice AY Bm AG,.slice AA Az Am,.int .i64 AO,.int .i64 zN,.bool ff,.int .i64 Ag]:=by rw[iZ,tP];exact heap_alloc_new w5 _
  have hop:=open_any (qA.out.below pb) jZ.out (by rw[dK.out];exact Nat.zero_le _) (fun _=>dK.out);rw[iO.out] at hop;have GA:TRd (fun j=>D4 j∨j=g13) W6 (.agg #[.slice AY Bm AG,.slice AA Az Am,.int .i64 AO,.int .i64 zN,.bool ff,.int .i64 Ag]) F0:=B5.fr (D:=fun _=>False) (Fr.of_below ap) (fun _ h=>h.elim) (fun j hj=>by
   rcases hj with hj|hj
   ·exact .inl (.inl hj)
   ·exact .inr (by omega))
  have b8:=qH hop;have IU:=qH GA;have yQ:=qH vM;have JQ:=qH iZ;have Do:=qH tP;have qe:=qH pb;have aE:=qH (ai.out.trans (pb.mono ai.out.size));have yW:¬D4 g13:=fun h=>by have:=qA.out.lt g13 h;have:=au.size;omega
  have EE:=qH yW;clear B5 au iZ tP ap pb vM hop GA yW z0 z1 z2 z3 z4 z5;go_wp2_with fail
  rw[←JQ.out,←Do.out];go_at_call 14;refine b8.out.mono ?_;rintro e w7⟨sv,rfl,aK⟩;obtain⟨_,M7,qp,o7,DF⟩:(0:Nat)=0∧∃M',Sto dg M' w7 sv Y∧Fr D4 W6 w7∧∀k,M' k→D4 k∨W6.heap.size≤k:=by
   rcases aK with ⟨h,_⟩|h
   ·exact absurd rfl h
   ·exact h
  obtain⟨g,JK⟩:∃g,sv= .pointer (some ⟨g,0,none⟩):=by
   obtain⟨D,R,g,rv,h1,_⟩:=qp;exact⟨g,h1⟩
  subst JK;have nz:=yQ.out.same (o7.block g13 yQ.out.lt EE.out);have jn:TRd (fun j=>M7 j∨j=g13) w7 (.agg #[.slice AY Bm AG,.slice AA Az Am,.int .i64 AO,.int .i64 zN,.bool ff,.int .i64 Ag]) F0:=IU.out.fr o7 (fun j hj=> .inl hj) (fun j hj=>by
   rcases hj with hj|hj
   ·rcases DF j hj with h|h
    ·exact .inl (.inl h)
    ·exact .inr h
   ·exact .inl (.inr hj))
  have hro:=open8_any jn cm.out (fun q hq=>by rcases hq with hq|hq;exact qp.lt q hq;rw[hq];exact nz.lt) jZ.out (by rw[dK.out];exact Nat.zero_le _);rw[iO.out] at hro;have j4:=qH hro;have sa:=qH qp;have BA:=qH (show ∀j,M7 j→w.heap.size≤j from fun j hj=>by
   rcases DF j hj with h|h
   ·exact Nat.le_trans tr.out (yF.out j h)
   ·exact Nat.le_trans aE.out.size h)
  have bo:=qH (aE.out.trans (o7.below (B:=w.heap.size) (fun j hj=>Nat.le_trans tr.out (yF.out j hj)) aE.out.size));obtain⟨z0,z1,z2,z3,z4,z5⟩:=cl6 nz;clear aK qp o7 DF nz jn hro;go_wp2_with fail
  go_at_call 15;refine j4.out.mono ?_;rintro e w8⟨K1,rfl,_,cz,uw⟩;obtain⟨DH,BZ,EM,Co,DL,BG,BE,Br,fu,BO,BV,BQ,Cg,rfl,xZ,wP⟩:=uw rfl;obtain⟨W9,vK⟩:∃W9,W9=w8.alloc (Obj.cells #[.slice DH BZ EM,.slice Co DL BG,.int .i64 BE,.int .i64 Br,.bool fu,.int .i64 BO,.slice BV BQ Cg,.int .i64 (Y.ep:Int),.int .i64 (Y.ar:Int),.int .i64 (Y.us:Int),.int .i64 (Y.fr:Int)] 42):=⟨_,rfl⟩
  obtain⟨g17,dz⟩:∃g17,g17=w8.heap.size:=⟨_,rfl⟩
  have fx:Below w8.heap.size w8 W9:=by rw[vK];exact(Below.refl _ _).alloc (Nat.le_refl _) _
  have nI:Below w7.heap.size w7 W9:=cz.trans (fx.mono cz.size);have jy:Dv.Blk W9 g17 42 #[.slice DH BZ EM,.slice Co DL BG,.int .i64 BE,.int .i64 Br,.bool fu,.int .i64 BO,.slice BV BQ Cg,.int .i64 (Y.ep:Int),.int .i64 (Y.ar:Int),.int .i64 (Y.us:Int),.int .i64 (Y.fr:Int)]:=by rw[vK,dz];exact heap_alloc_new w8 _
  have AN:W9.heap.size=g17+1:=by rw[vK,dz];simp
  have wH:=qH (show Duo (fun j=>j=g17) w.heap.size W9.heap.size dg W9 (.pointer (some ⟨g,0,none⟩)) Y (.agg #[.slice DH BZ EM,.slice Co DL BG,.int .i64 BE,.int .i64 Br,.bool fu,.int .i64 BO,.slice BV BQ Cg,.int .i64 (Y.ep:Int),.int .i64 (Y.ar:Int),.int .i64 (Y.us:Int),.int .i64 (Y.fr:Int)]) Y from⟨M7,sa.out.below nI,fun j hj=>⟨BA.out j hj,fun h=>by have:=sa.out.lt j hj;have:=cz.size;omega,by have:=sa.out.lt j hj;have:=nI.size;omega⟩,Nat.le_trans bo.out.size nI.size,Nat.le_refl _,fun j hj=>⟨by have:=bo.out.size;have:=cz.size;omega,by omega⟩,
   (trs_mk xZ wP).fr (D:=fun _=>False) (Fr.of_below fx) (fun _ h=>h.elim) (fun j hj=>by
    rcases hj with hj|hj
    ·exact .inl (.inl hj)
    ·exact .inr (by omega))⟩)
  have sx:=qH jy;have JO:=qH vK;have jd:=qH dz;have fG:=qH (bo.out.trans (nI.mono bo.out.size));clear cz uw xZ wP vK dz fx nI jy AN z0 z1 z2 z3 z4 z5;go_wp2_with fail
  rw[←JO.out,←jd.out];have pD:=qH (duo_same wH.out HI.out.good);have af:=sx.out;have zl:=af.lt;obtain⟨z0,z1,z2,z3,z4,z5,z6,z7,z8,z9,aX⟩:=cl11 af;clear af;go_wp2_with fail
  go_at_call 16;refine pD.out.mono ?_;rintro e EW⟨rfl,om⟩;have Dh:=qH (sx.out.below om sx.out.lt);have Eg:=qH ((wH.out.below om).top om.size (Nat.le_refl _));have Dy:=qH (fG.out.trans (om.mono fG.out.size));clear om zl z0 z1 z2 z3 z4 z5 z6 z7 z8 z9 aX;go_wp2_with fail
  go_loopw [9,13] (fun sv i wr=>∃(j:Nat) (x:Ss) (g:Nat) (tu:Array Value),j≤m∧sv= .pointer (some ⟨g,0,none⟩)∧i= .int .i64 j∧Keep (2+j) (sizeN k) x∧Dv.Blk wr g17 42 tu∧Duo (fun q=>q=g17) w.heap.size wr.heap.size dg wr (.pointer (some ⟨g,0,none⟩)) x (.agg tu) x∧Below w.heap.size w wr) (fun _ i _=>m-(intOf i).toNat)
  case atStart=>exact⟨0,Y,g,_,Nat.zero_le _,rfl,rfl,by have h:=Keep.start HI.out zW.out JL.out;rw[xk.out] at h;exact h,Dh.out,Eg.out,Dy.out⟩
  case round=>
   obtain⟨j,x,g',tu,hj,rfl,rfl,p7,Gg,hD,aj⟩:=hrel;obtain⟨aS,nS,cS,aL,nL,cL,cw,cf,f,lf,aR,nR,cR,uw⟩:=hD.shape;injection uw with uw;subst uw;have ol:=qH p7;have D2:=qH Gg;have xM:=qH hD;have yI:=qH aj;clear p7 Gg hD aj;by_cases hlt:j<m
   rotate_left
   ·have hjm:j=m:=by omega
    subst hjm;have KD:¬(j:Int)<(j:Int):=by omega
    go_wp2;go_ret;exact⟨rfl,yI.out⟩
   have GI:=zx.out;obtain⟨b,off,dx,hA,rZ,_,JA⟩:=HD.out.at_ HM.out hlt;subst hA;obtain⟨e0,⟨u1,e1,bi⟩,⟨u2,e2,hkb⟩,e3,G0,F5,hcl,hkl⟩:=JA;have hce:∀o,wr.cell? ⟨b,o,none⟩=w.cell? ⟨b,o,none⟩:=fun o=>yI.out.cell (p:=⟨b,o,none⟩) rZ
   have c0:=(hce _).trans e0;have c1:=(hce _).trans e1;have c2:=(hce _).trans e2;have c3:=(hce _).trans e3;have hbb:=Nat.lt_of_lt_of_le rZ yI.out.size;clear e0 e1 e2 e3 hce rZ;obtain⟨A1,d1,rfl⟩:=rb_shape bi;obtain⟨A2,d2,rfl,_⟩:=id hkb;have vF:=qH bi;have qI:=qH hkb;obtain⟨W,hW⟩:∃W,W=wr.alloc (Obj.cells #[.int .u8 (dx.kind:Int),.slice A1 dx.c.length d1,.slice A2 dx.keep.length d2,.int .u8 (dx.fuse:Int)] 49):=⟨_,rfl⟩
   obtain⟨g14,tD⟩:∃g14,g14=wr.heap.size:=⟨_,rfl⟩
   have hbW:Below wr.heap.size wr W:=by rw[hW];exact(Below.refl _ _).alloc (Nat.le_refl _) _
   have y7:Dv.Blk W g14 49 #[.int .u8 (dx.kind:Int),.slice A1 dx.c.length d1,.slice A2 dx.keep.length d2,.int .u8 (dx.fuse:Int)]:=by rw[hW,tD];exact heap_alloc_new wr _
   have oI:=qH (xM.out.below hbW);have rM:=qH hbW;have aw:=qH (yI.out.trans (hbW.mono yI.out.size));have ic:=qH (D2.out.below hbW D2.out.lt);have qh:=qH y7;have zT:=qH hW;have kV:=qH tD;have i6:(j:Int)<(m:Int):=by omega
   have gZ:=hcl;have IK:=hkl;clear hW tD hbW y7 bi hkb;obtain⟨kd,Ku⟩:∃kd,kd=dx.kind%8:=⟨_,rfl⟩
   have oX:(dx.kind:Int).tmod 8=(kd:Int):=by rw[Int.tmod_eq_emod_of_nonneg (by omega)];omega
   have tT:kd<8:=by omega
   clear Ku;by_cases h5:kd=5
   ·have bD:(dx.kind:Int).tmod 8=5:=by rw[oX,h5];rfl
    clear oX tT h5;obtain⟨rT,Dx⟩:∃rT,rT=dx.fuse%12:=⟨_,rfl⟩
    have Lg:(dx.fuse:Int).tmod 12=(rT:Int):=by rw[Int.tmod_eq_emod_of_nonneg (by omega)];omega
    have uB:rT<12:=by omega
    clear Dx;have lj:=qH (duo_progfuse (rT:Int) (by omega) oI.out);go_wp2_with fail
    rw[←zT.out,←kV.out];go_at_call 17;refine lj.out.mono ?_;rintro e w5⟨rfl,vB,au,aP⟩;have li:=qH (qh.out.same (aP g14 (.inr (Nat.le_of_eq kV.out.symm)) qh.out.lt));have fC:=qH (ic.out.same (aP g17 (.inl rfl) ic.out.lt));have gi:=qH (duo_reffuse (rT:Int) vB);have ax:=qH (aw.out.trans au);have af:=fC.out;have zl:=af.lt;obtain⟨z0,z1,z2,z3,z4,z5,z6,z7,z8,z9,aX⟩:=cl11 af;have hyk:=li.out;have y0:=hyk.cell 0;have y1:=hyk.cell 1;have y2:=hyk.cell 2;have y3:=hyk.cell 3;simp at y0 y1 y2 y3;clear vB au aP af hyk;go_wp2_with fail
    go_at_call 18;refine gi.out.mono ?_;rintro e w6⟨gI,gv,gu,gO,gm,gW,gp,gq,f6,lf6,rfl,jk,ap⟩;have uE:=qH (fC.out.below ap fC.out.lt);have DM:=qH jk;have aE:=qH (ax.out.trans (ap.mono ax.out.size));clear zl z0 z1 z2 z3 z4 z5 z6 z7 z8 z9 aX y0 y1 y2 y3;have af:=uE.out;have zl:=af.lt;obtain⟨z0,z1,z2,z3,z4,z5,z6,z7,z8,z9,aX⟩:=cl11 af;have zf:=af.frozen;clear jk ap af;go_wp2_with fail
    rw[six_def];obtain⟨wT,hwT,fo,jq⟩:∃wT,wT=sixC w6 g17 (.slice gI gv gu) (.slice gO gm gW) (.int .i64 gp) (.int .i64 gq) (.bool f6) (.int .i64 lf6)∧Dv.Blk wT g17 42 #[.slice gI gv gu,.slice gO gm gW,.int .i64 gp,.int .i64 gq,.bool f6,.int .i64 lf6,.slice aR nR cR,.int .i64 (x.ep:Int),.int .i64 (x.ar:Int),.int .i64 (x.us:Int),.int .i64 (x.fr:Int)]∧Fr (fun q=>q=g17) w6 wT:=⟨_,rfl,six11 uE.out _ _ _ _ _ _,six_fr _ _ _ _ _ _ _ _⟩
    rw[←hwT];clear hwT;have ik:=qH fo;have kY:=qH (DM.out.fr jq (fun q hq=>hq));clear zf;have iE:=qH (ol.out.fuse (rT:Int) (by omega));have iW:=qH (aE.out.trans (jq.below (fun q hq=>by rw[hq];exact(xM.out.lt g17 rfl).1) aE.out.size));clear fo jq;have pD:=qH (duo_same kY.out iE.out.inv.good);try clear zl z0 z1 z2 z3 z4 z5 z6 z7 z8 z9 aX
    have af:=ik.out;have zl:=af.lt;obtain⟨z0,z1,z2,z3,z4,z5,z6,z7,z8,z9,aX⟩:=cl11 af;clear af;go_wp2_with fail
    go_at_call 16;refine pD.out.mono ?_;rintro e wE⟨rfl,gS⟩;have sW:=qH (ik.out.below gS ik.out.lt);have oz:=qH ((kY.out.below gS).top (Nat.le_trans kY.out.le gS.size) (Nat.le_refl _));have dd:=qH (iW.out.trans (gS.mono iW.out.size));clear gS zl z0 z1 z2 z3 z4 z5 z6 z7 z8 z9 aX;go_wp2;go_roundw
    case rel=>exact⟨j+1,_,_,_,by omega,rfl,by go_num,iE.out,sW.out,oz.out,dd.out⟩
    case measure=>simp[intOf];omega
   by_cases h6:kd=6
   ·have La:(dx.kind:Int).tmod 8=6:=by rw[oX,h6];rfl
    clear oX tT h5 h6;obtain⟨Z,hZ⟩:∃Z,Z=ckS x:=⟨_,rfl⟩
    have hrc:=duo_refck oI.out ol.out.inv.good (by have:=ol.out.ep;omega);rw[←hZ] at hrc;have B7:=qH hrc;have HZ:=qH hZ;clear hrc hZ;have af:=D2.out.alloc (Obj.cells #[.int .u8 (dx.kind:Int),.slice A1 dx.c.length d1,.slice A2 dx.keep.length d2,.int .u8 (dx.fuse:Int)] 49);have zl:=af.lt;obtain⟨z0,z1,z2,z3,z4,z5,z6,z7,z8,z9,aX⟩:=cl11 af;clear af;go_wp2_with fail
    rw[←zT.out,←kV.out];go_at_call 19;refine B7.out.mono ?_;rintro e w6⟨Hh,rfl,jk,ap⟩;obtain⟨gI,gv,gu,gO,gm,gW,gp,gq,f6,lf6,iH,iN,iL,rfl⟩:=jk.shape;obtain⟨W7,iB⟩:∃W7,W7=w6.alloc (Obj.cells #[.slice gI gv gu,.slice gO gm gW,.int .i64 gp,.int .i64 gq,.bool f6,.int .i64 lf6,.slice iH iN iL,.int .i64 (Z.ep:Int),.int .i64 (Z.ar:Int),.int .i64 (Z.us:Int),.int .i64 (Z.fr:Int)] 42):=⟨_,rfl⟩
    obtain⟨g22,jj⟩:∃g22,g22=w6.heap.size:=⟨_,rfl⟩
    have br:Below w6.heap.size w6 W7:=by rw[iB];exact(Below.refl _ _).alloc (Nat.le_refl _) _
    have nk:Dv.Blk W7 g22 42 #[.slice gI gv gu,.slice gO gm gW,.int .i64 gp,.int .i64 gq,.bool f6,.int .i64 lf6,.slice iH iN iL,.int .i64 (Z.ep:Int),.int .i64 (Z.ar:Int),.int .i64 (Z.us:Int),.int .i64 (Z.fr:Int)]:=by rw[iB,jj];exact heap_alloc_new w6 _
    have nW:=qH ((ic.out.below ap ic.out.lt).below br (ic.out.below ap ic.out.lt).lt);have Da:=qH (jk.below br);have bo:=qH ((aw.out.trans (ap.mono aw.out.size)).trans (br.mono (aw.out.trans (ap.mono aw.out.size)).size));have mv:=qH nk;have tc:=qH iB;have tO:=qH jj;have EX:=qH (show wr.heap.size≤g22 by rw[jj];exact jk.le);clear iB jj nk zl z0 z1 z2 z3 z4 z5 z6 z7 z8 z9 aX;have hpc:=duo_progck Da.out ol.out.inv.good (by have:=ol.out.ep;omega);rw[←HZ.out] at hpc;have kg:=qH hpc;clear hpc;go_wp2_with fail
    rw[←tc.out,←tO.out];go_at_call 20;refine kg.out.mono ?_;rintro e w8⟨rfl,qc,cz,cQ⟩;have jU:=qH (nW.out.same (cQ g17 (.inl rfl) nW.out.lt));have ob:=qH (mv.out.same (cQ g22 (.inr EX.out) mv.out.lt));have zq:=qH qc;have cI:=qH (bo.out.trans cz);have af:=ob.out;have zl:=af.lt;obtain⟨z0,z1,z2,z3,z4,z5,z6,z7,z8,z9,aX⟩:=cl11 af;clear qc cz cQ af;go_wp2_with (refine wpList_store_row rfl 42 (.tmp 11) (.tmp 125) rfl g17 #[.slice gI gv gu,.slice gO gm gW,.int .i64 gp,.int .i64 gq,.bool f6,.int .i64 lf6,.slice iH iN iL,.int .i64 (Z.ep:Int),.int .i64 (Z.ar:Int),.int .i64 (Z.us:Int),.int .i64 (Z.fr:Int)] rfl rfl 42 #[.slice aS nS cS,.slice aL nL cL,.int .i64 cw,.int .i64 cf,.bool f,.int .i64 lf,.slice aR nR cR,.int .i64 (x.ep:Int),.int .i64 (x.ar:Int),.int .i64 (x.us:Int),.int .i64 (x.fr:Int)] ?hg (elv42 _ _ _ _ _ _ _ _ _ _ _) rfl (all11 _ _ _ _ _ _ _ _ _ _ _ _ _ _ _ _ _) ?_;(case hg=>exact jU.out);obtain⟨wT,hwT,fo,jq⟩:∃wT,wT=w8.setRow g17 #[.slice gI gv gu,.slice gO gm gW,.int .i64 gp,.int .i64 gq,.bool f6,.int .i64 lf6,.slice iH iN iL,.int .i64 (Z.ep:Int),.int .i64 (Z.ar:Int),.int .i64 (Z.us:Int),.int .i64 (Z.fr:Int)]∧Dv.Blk wT g17 42 #[.slice gI gv gu,.slice gO gm gW,.int .i64 gp,.int .i64 gq,.bool f6,.int .i64 lf6,.slice iH iN iL,.int .i64 (Z.ep:Int),.int .i64 (Z.ar:Int),.int .i64 (Z.us:Int),.int .i64 (Z.fr:Int)]∧Fr (fun q=>q=g17) w8 wT:=⟨_,rfl,row_blk jU.out _,row_fr _ g17 _⟩;rw[←hwT];clear hwT;(try clear zl z0 z1 z2 z3 z4 z5 z6 z7 z8 z9 aX);have ik:=qH fo;have af:=ik.out;have zl:=af.lt;have z0:=af.cell 0;have z1:=af.cell 1;have z2:=af.cell 2;have z3:=af.cell 3;have z4:=af.cell 4;have z5:=af.cell 5;have z6:=af.cell 6;have z7:=af.cell 7;have z8:=af.cell 8;have z9:=af.cell 9;have aX:=af.cell 10;simp at z0 z1 z2 z3 z4 z5 z6 z7 z8 z9 aX;clear af)
    have iE:=qH (show Keep (2+j+1) (sizeN k) Z by rw[HZ.out];exact ol.out.ck (by omega));have kY:=qH (zq.out.fr jq (fun q hq=>hq));have iW:=qH (cI.out.trans (jq.below (fun q hq=>by rw[hq];exact(xM.out.lt g17 rfl).1) cI.out.size));clear fo jq;have pD:=qH (duo_same kY.out iE.out.inv.good);go_at_call 16;refine pD.out.mono ?_;rintro e wE⟨rfl,gS⟩;have sW:=qH (ik.out.below gS ik.out.lt);have oz:=qH ((kY.out.below gS).top (Nat.le_trans kY.out.le gS.size) (Nat.le_refl _));have dd:=qH (iW.out.trans (gS.mono iW.out.size));clear gS zl z0 z1 z2 z3 z4 z5 z6 z7 z8 z9 aX;go_wp2;go_roundw
    case rel=>exact⟨j+1,_,_,_,by omega,rfl,by go_num,iE.out,sW.out,oz.out,dd.out⟩
    case measure=>simp[intOf];omega
   by_cases h7:kd=7
   ·have lX:(dx.kind:Int).tmod 8=7:=by rw[oX,h7];rfl
    clear oX tT h5 h6 h7;have qW:=qH (duo_crash dx.keep oI.out qI.out aw.out (Nat.le_refl _));obtain⟨Z,y1,y2,y3,y4,y5⟩:=ol.out.crash dx.keep (by omega);have Ah:=qH y1;have iE:=qH y2;have Ix:=qH y3;have Gd:=qH y4;have GR:=qH y5;clear y1 y2 y3 y4 y5;go_wp2_with fail
    rw[←zT.out,←kV.out];go_at_call 21;refine qW.out.mono ?_;rintro e w5⟨rfl,vB,au,aP⟩;have li:=qH (qh.out.same (aP g14 (.inr (Nat.le_of_eq kV.out.symm)) qh.out.lt));have fC:=qH (ic.out.same (aP g17 (.inl rfl) ic.out.lt));have ax:=qH (aw.out.trans au);have b8:=qH (duo_open vB (by rw[Gd.out];exact ig.out.1) GR.out Ah.out);clear vB au aP;go_wp2_with fail
    go_at_call 14;refine b8.out.mono ?_;rintro e w6⟨KH,rfl,jk,ap,tA⟩;obtain⟨g6,rfl⟩:=jk.ptr;have xY:=qH (li.out.same (tA g14 (.inr (Nat.le_of_eq kV.out.symm)) li.out.lt));have uE:=qH (fC.out.same (tA g17 (.inl rfl) fC.out.lt));have aE:=qH (ax.out.trans ap);have B7:=qH (duo_refcrash dx.keep jk ol.out.inv.good.ok qI.out aE.out (Nat.le_refl _));have af:=uE.out;have zl:=af.lt;obtain⟨z0,z1,z2,z3,z4,z5,z6,z7,z8,z9,aX⟩:=cl11 af;have hyk:=xY.out;have y0:=hyk.cell 0;have y1:=hyk.cell 1;have y2:=hyk.cell 2;have y3:=hyk.cell 3;simp at y0 y1 y2 y3;clear jk ap tA af hyk;go_wp2_with fail
    go_at_call 22;refine B7.out.mono ?_;rintro e w7⟨Bi,rfl,yq,br⟩;have j4:=qH (duo_refopen yq Ix.out (by rw[Gd.out];exact ig.out.1) GR.out Ah.out);have bo:=qH (aE.out.trans (br.mono aE.out.size));have mj:=qH (uE.out.below br uE.out.lt);clear yq br zl z0 z1 z2 z3 z4 z5 z6 z7 z8 z9 aX y0 y1 y2 y3;go_wp2_with fail
    go_at_call 15;refine j4.out.mono ?_;rintro e w8⟨Gw,rfl,qc,cz⟩;obtain⟨gI,gv,gu,gO,gm,gW,gp,gq,f6,lf6,iH,iN,iL,rfl⟩:=qc.shape;have zq:=qH (qc.below ((Below.refl _ _).alloc (Nat.le_refl _) (Obj.cells #[.slice gI gv gu,.slice gO gm gW,.int .i64 gp,.int .i64 gq,.bool f6,.int .i64 lf6,.slice iH iN iL,.int .i64 (Z.ep:Int),.int .i64 (Z.ar:Int),.int .i64 (Z.us:Int),.int .i64 (Z.fr:Int)] 42)));have jU:=qH ((mj.out.below cz mj.out.lt).alloc (Obj.cells #[.slice gI gv gu,.slice gO gm gW,.int .i64 gp,.int .i64 gq,.bool f6,.int .i64 lf6,.slice iH iN iL,.int .i64 (Z.ep:Int),.int .i64 (Z.ar:Int),.int .i64 (Z.us:Int),.int .i64 (Z.fr:Int)] 42));have cI:=qH ((bo.out.trans (cz.mono bo.out.size)).alloc (bo.out.trans (cz.mono bo.out.size)).size (Obj.cells #[.slice gI gv gu,.slice gO gm gW,.int .i64 gp,.int .i64 gq,.bool f6,.int .i64 lf6,.slice iH iN iL,.int .i64 (Z.ep:Int),.int .i64 (Z.ar:Int),.int .i64 (Z.us:Int),.int .i64 (Z.fr:Int)] 42));clear qc cz;go_wp2_with (refine wpList_store_row rfl 42 (.tmp 11) (.tmp 155) rfl g17 #[.slice gI gv gu,.slice gO gm gW,.int .i64 gp,.int .i64 gq,.bool f6,.int .i64 lf6,.slice iH iN iL,.int .i64 (Z.ep:Int),.int .i64 (Z.ar:Int),.int .i64 (Z.us:Int),.int .i64 (Z.fr:Int)] rfl rfl 42 #[.slice aS nS cS,.slice aL nL cL,.int .i64 cw,.int .i64 cf,.bool f,.int .i64 lf,.slice aR nR cR,.int .i64 (x.ep:Int),.int .i64 (x.ar:Int),.int .i64 (x.us:Int),.int .i64 (x.fr:Int)] ?hg (elv42 _ _ _ _ _ _ _ _ _ _ _) rfl (all11 _ _ _ _ _ _ _ _ _ _ _ _ _ _ _ _ _) ?_;(case hg=>exact jU.out);obtain⟨wT,hwT,fo,jq⟩:∃wT,wT=(w8.alloc (Obj.cells #[.slice gI gv gu,.slice gO gm gW,.int .i64 gp,.int .i64 gq,.bool f6,.int .i64 lf6,.slice iH iN iL,.int .i64 (Z.ep:Int),.int .i64 (Z.ar:Int),.int .i64 (Z.us:Int),.int .i64 (Z.fr:Int)] 42)).setRow g17 #[.slice gI gv gu,.slice gO gm gW,.int .i64 gp,.int .i64 gq,.bool f6,.int .i64 lf6,.slice iH iN iL,.int .i64 (Z.ep:Int),.int .i64 (Z.ar:Int),.int .i64 (Z.us:Int),.int .i64 (Z.fr:Int)]∧Dv.Blk wT g17 42 #[.slice gI gv gu,.slice gO gm gW,.int .i64 gp,.int .i64 gq,.bool f6,.int .i64 lf6,.slice iH iN iL,.int .i64 (Z.ep:Int),.int .i64 (Z.ar:Int),.int .i64 (Z.us:Int),.int .i64 (Z.fr:Int)]∧Fr (fun q=>q=g17) (w8.alloc (Obj.cells #[.slice gI gv gu,.slice gO gm gW,.int .i64 gp,.int .i64 gq,.bool f6,.int .i64 lf6,.slice iH iN iL,.int .i64 (Z.ep:Int),.int .i64 (Z.ar:Int),.int .i64 (Z.us:Int),.int .i64 (Z.fr:Int)] 42)) wT:=⟨_,rfl,row_blk jU.out _,row_fr _ g17 _⟩;rw[←hwT];clear hwT;(try clear zl z0 z1 z2 z3 z4 z5 z6 z7 z8 z9 aX);have ik:=qH fo;have af:=ik.out;have zl:=af.lt;have z0:=af.cell 0;have z1:=af.cell 1;have z2:=af.cell 2;have z3:=af.cell 3;have z4:=af.cell 4;have z5:=af.cell 5;have z6:=af.cell 6;have z7:=af.cell 7;have z8:=af.cell 8;have z9:=af.cell 9;have aX:=af.cell 10;simp at z0 z1 z2 z3 z4 z5 z6 z7 z8 z9 aX;clear af)
    have kY:=qH (zq.out.fr jq (fun q hq=>hq));have iW:=qH (cI.out.trans (jq.below (fun q hq=>by rw[hq];exact(xM.out.lt g17 rfl).1) cI.out.size));clear fo jq;have pD:=qH (duo_same kY.out iE.out.inv.good);go_at_call 16;refine pD.out.mono ?_;rintro e wE⟨rfl,gS⟩;have sW:=qH (ik.out.below gS ik.out.lt);have oz:=qH ((kY.out.below gS).top (Nat.le_trans kY.out.le gS.size) (Nat.le_refl _));have dd:=qH (iW.out.trans (gS.mono iW.out.size));clear gS zl z0 z1 z2 z3 z4 z5 z6 z7 z8 z9 aX;go_wp2;go_roundw
    case rel=>exact⟨j+1,_,_,_,by omega,rfl,by go_num,iE.out,sW.out,oz.out,dd.out⟩
    case measure=>simp[intOf];omega
   have qd:¬(kd:Int)=5:=by omega
   have h6':¬(kd:Int)=6:=by omega
   have KT:¬(kd:Int)=7:=by omega
   obtain⟨cs,hcs⟩:∃cs,cs=cOf dx.c:=⟨_,rfl⟩
   have lS:=cOf_few dx.c;rw[←hcs] at lS;have I6:=qH (show cs=(rowsAt dx.c (nrows dx.c 6)).map chgOf from hcs);have nr:=qH lS;have mI:=qH (changeList_any (.slice A1 dx.c.length d1) dx.c 6 (by omega) W (vF.out.below aw.out) (by omega));rw[←I6.out] at mI;clear hcs lS;go_wp2_with fail
   rw[←zT.out,←kV.out];go_at_call 23;refine mI.out.mono ?_;rintro e w5⟨cv,rfl,dD,au⟩;obtain⟨R,hR⟩:∃R,R=commitR x cs:=⟨_,rfl⟩
   have uo:=duo_ref (oI.out.below au) rM.out.size ol.out.inv.good dD (by have:=nr.out.1;omega) (by have:=nr.out.2.1;omega);rw[←hR] at uo;obtain⟨A5,c5,rfl,lW⟩:=rc_shape dD.rc;have Cd:=qH uo;have qG:=qH dD;have bM:=qH hR;have ax:=qH (aw.out.trans (au.mono aw.out.size));have fC:=qH (ic.out.below au ic.out.lt);have af:=fC.out;have zl:=af.lt;obtain⟨z0,z1,z2,z3,z4,z5,z6,z7,z8,z9,aX⟩:=cl11 af;clear uo dD hR au af lW;go_wp2_with fail
   go_at_call 24;refine Cd.out.mono ?_;rintro e w6⟨Hh,rfl,jk,ap⟩;obtain⟨gI,gv,gu,gO,gm,gW,gp,gq,f6,lf6,iH,iN,iL,rfl⟩:=jk.shape;obtain⟨W7,iB⟩:∃W7,W7=w6.alloc (Obj.cells #[.slice gI gv gu,.slice gO gm gW,.int .i64 gp,.int .i64 gq,.bool f6,.int .i64 lf6,.slice iH iN iL,.int .i64 (R.1.ep:Int),.int .i64 (R.1.ar:Int),.int .i64 (R.1.us:Int),.int .i64 (R.1.fr:Int)] 42):=⟨_,rfl⟩
   obtain⟨g22,jj⟩:∃g22,g22=w6.heap.size:=⟨_,rfl⟩
   have br:Below w6.heap.size w6 W7:=by rw[iB];exact(Below.refl _ _).alloc (Nat.le_refl _) _
   have nk:Dv.Blk W7 g22 42 #[.slice gI gv gu,.slice gO gm gW,.int .i64 gp,.int .i64 gq,.bool f6,.int .i64 lf6,.slice iH iN iL,.int .i64 (R.1.ep:Int),.int .i64 (R.1.ar:Int),.int .i64 (R.1.us:Int),.int .i64 (R.1.fr:Int)]:=by rw[iB,jj];exact heap_alloc_new w6 _
   have nW:=qH ((fC.out.below ap fC.out.lt).below br (fC.out.below ap fC.out.lt).lt);have Da:=qH (jk.below br);have bo:=qH ((ax.out.trans (ap.mono ax.out.size)).trans (br.mono (ax.out.trans (ap.mono ax.out.size)).size));have mv:=qH nk;have tc:=qH iB;have tO:=qH jj;have EX:=qH (show wr.heap.size≤g22 by rw[jj];exact jk.le);clear iB jj nk zl z0 z1 z2 z3 z4 z5 z6 z7 z8 z9 aX;have vo:=(qG.out.below ap).below br;have qY:=duo_commit Da.out rM.out.size ol.out.inv.good vo (by have:=nr.out.1;omega) (by have:=nr.out.2.1;omega);rw[←bM.out] at qY;have kg:=qH qY;clear qY vo;go_wp2_with fail
   rw[←tc.out,←tO.out];go_at_call 25;refine kg.out.mono ?_;rintro e w8⟨rfl,qc,cz,cQ⟩;have jU:=qH (nW.out.same (cQ g17 (.inl rfl) nW.out.lt));have ob:=qH (mv.out.same (cQ g22 (.inr EX.out) mv.out.lt));have zq:=qH qc;have cI:=qH (bo.out.trans cz);have af:=ob.out;have zl:=af.lt;obtain⟨z0,z1,z2,z3,z4,z5,z6,z7,z8,z9,aX⟩:=cl11 af;clear qc cz cQ af;have Gc:R.2≤32:=by rw[bM.out];exact commit_code _ _
   have hcw:IntKind.i64.wrap ((R.2:Nat):Int)=(R.2:Int):=by rw[IntKind.wrap_i64];omega
   go_wp2_with (refine wpList_store_row rfl 42 (.tmp 11) (.tmp 96) rfl g17 #[.slice gI gv gu,.slice gO gm gW,.int .i64 gp,.int .i64 gq,.bool f6,.int .i64 lf6,.slice iH iN iL,.int .i64 (R.1.ep:Int),.int .i64 (R.1.ar:Int),.int .i64 (R.1.us:Int),.int .i64 (R.1.fr:Int)] rfl rfl 42 #[.slice aS nS cS,.slice aL nL cL,.int .i64 cw,.int .i64 cf,.bool f,.int .i64 lf,.slice aR nR cR,.int .i64 (x.ep:Int),.int .i64 (x.ar:Int),.int .i64 (x.us:Int),.int .i64 (x.fr:Int)] ?hg (elv42 _ _ _ _ _ _ _ _ _ _ _) rfl (all11 _ _ _ _ _ _ _ _ _ _ _ _ _ _ _ _ _) ?_;(case hg=>exact jU.out);obtain⟨wT,hwT,fo,jq⟩:∃wT,wT=w8.setRow g17 #[.slice gI gv gu,.slice gO gm gW,.int .i64 gp,.int .i64 gq,.bool f6,.int .i64 lf6,.slice iH iN iL,.int .i64 (R.1.ep:Int),.int .i64 (R.1.ar:Int),.int .i64 (R.1.us:Int),.int .i64 (R.1.fr:Int)]∧Dv.Blk wT g17 42 #[.slice gI gv gu,.slice gO gm gW,.int .i64 gp,.int .i64 gq,.bool f6,.int .i64 lf6,.slice iH iN iL,.int .i64 (R.1.ep:Int),.int .i64 (R.1.ar:Int),.int .i64 (R.1.us:Int),.int .i64 (R.1.fr:Int)]∧Fr (fun q=>q=g17) w8 wT:=⟨_,rfl,row_blk jU.out _,row_fr _ g17 _⟩;rw[←hwT];clear hwT;(try clear zl z0 z1 z2 z3 z4 z5 z6 z7 z8 z9 aX);have ik:=qH fo;have af:=ik.out;have zl:=af.lt;have z0:=af.cell 0;have z1:=af.cell 1;have z2:=af.cell 2;have z3:=af.cell 3;have z4:=af.cell 4;have z5:=af.cell 5;have z6:=af.cell 6;have z7:=af.cell 7;have z8:=af.cell 8;have z9:=af.cell 9;have aX:=af.cell 10;simp at z0 z1 z2 z3 z4 z5 z6 z7 z8 z9 aX;clear af)
   have iE:=qH (show Keep (2+j+1) (sizeN k) R.1 by rw[bM.out];exact ol.out.commit (fun _=>nr.out.2.2));have kY:=qH (zq.out.fr jq (fun q hq=>hq));have iW:=qH (cI.out.trans (jq.below (fun q hq=>by rw[hq];exact(xM.out.lt g17 rfl).1) cI.out.size));clear fo jq;have pD:=qH (duo_same kY.out iE.out.inv.good);go_at_call 16;refine pD.out.mono ?_;rintro e wE⟨rfl,gS⟩;have sW:=qH (ik.out.below gS ik.out.lt);have oz:=qH ((kY.out.below gS).top (Nat.le_trans kY.out.le gS.size) (Nat.le_refl _));have dd:=qH (iW.out.trans (gS.mono iW.out.size));clear gS zl z0 z1 z2 z3 z4 z5 z6 z7 z8 z9 aX;go_wp2;go_roundw
   case rel=>exact⟨j+1,_,_,_,by omega,rfl,by go_num,iE.out,sW.out,oz.out,dd.out⟩
   case measure=>simp[intOf];omega
end Go.Proofs.YtmbkaedhllfoeaaGreat
