/-
  Texts of the proof, put together.
-/
import Derived.Test.YtmbkaedhllfoeaaGreatKOFC
import Derived.Test.YtmbkaedhllfoeaaGreatKOWr
set_option maxRecDepth 100000
set_option maxHeartbeats 4000000
set_option linter.unusedVariables false
set_option linter.unusedVariables false
namespace Go.Proofs.YtmbkaedhllfoeaaGreat
open Go.RowKit Go.Rst Go.Dv Go.Crc Go.Str Go.Pg
theorem opens_walk(k:Nat)(n:Int)(lv:Value)(ds:List Deed)(av:Value)(la:List UInt8)(vv:Value)(lb:List UInt8)(w:World)(hk:k≤255)(hn0: -9223372036854775808≤n∧n≤9223372036854775807)(hd:DS w lv ds)(ha:RB w av la)(hal:la.length≤140737488351232)(hv:RB w vv lb)(hvl:lb.length≤140737488351232):
  Calls Tryz.prog 4 #[.int .u8 (k:Int),.int .i64 n,lv,av,vv] w fun e w'=>e= .returned (.bool true)∧Below w.heap.size w w':=by
 have HD:=qH hd;have JR:=qH ha;have Je:=qH hv;have lJ:=qH hn0;have GP:=muchS_any hd;have G7:=qH GP;obtain⟨A,c,rfl,hl,_⟩:=hd;obtain⟨Aa,ca,rfl⟩:=rb_shape ha;obtain⟨Ab,cb,rfl⟩:=rb_shape hv;obtain⟨m,hm⟩:∃m,m=ds.length:=⟨_,rfl⟩
 rw[←hm] at HD hl G7⊢;have HM:=qH hm;clear hm GP ha hv hn0;go_enter Tryz.func4,Tryz.ntmps4;go_wp2_with fail
 go_at_call 9;refine G7.out.mono ?_;rintro e w1⟨r,rfl,_,hb1⟩;have al:=qH hb1;have vJ:=qH knownS_any;clear hb1
 cases r with
 |true=>
  go_wp2_with fail
  go_at_call 10;refine(vJ.out _).mono ?_;rintro e wk⟨rfl,hbk⟩;have jW:=qH (al.out.trans (hbk.mono al.out.size));clear hbk;go_wp2;go_ret;exact⟨rfl,jW.out⟩
 |false=>
  by_cases hk1:30<la.length
  ·have hk2:(30:Int)<(la.length:Int):=by omega
   go_wp2_with fail
   go_at_call 10;refine(vJ.out _).mono ?_;rintro e wk⟨rfl,hbk⟩;have jW:=qH (al.out.trans (hbk.mono al.out.size));clear hbk;go_wp2;go_ret;exact⟨rfl,jW.out⟩
  have hk2:¬(30:Int)<(la.length:Int):=by omega
  have Hn:la.length≤30:=by omega
  clear hk1;go_wp2_with fail
  go_at_call 10;refine(vJ.out _).mono ?_;rintro e wk⟨rfl,hbk⟩;have jW:=qH (al.out.trans (hbk.mono al.out.size));clear hbk;go_wp2_with fail
  go_at_call 11;refine(pair_any k hk wk).mono ?_;rintro e w2⟨dg,tv,rfl,⟨D,m2,ju,GA,htr⟩,hb2⟩;obtain⟨o1,o2,o3,o4,o5,o6⟩:=size_open k;obtain⟨z1,z2⟩:=sizeN_in k;obtain⟨S0,mF⟩:∃S0,S0=Sim.new (sizeN k):=⟨_,rfl⟩
  obtain⟨Y,hY⟩:∃Y,Y=openedS (Sim.new (sizeN k)):=⟨_,rfl⟩
  have pw:S0.firm.length=sizeN k:=by rw[mF,new_firm]
  have Kn:S0.loose.length=0:=by rw[mF];rfl
  rw[←hY] at o1 o2 o3 o4;rw[←mF] at ju htr o1 o5 o6;have CL:=(format_can (s:=S0) ju.ok (by rw[mF];rfl) (by rw[mF];rfl) (by rw[pw];exact z1)).2.2.2.2.2.2.2;obtain⟨F0,Hy⟩:∃F0,F0=formatS S0:=⟨_,rfl⟩
  have hfmt:=fun X (hX:Below w2.heap.size w2 X)=>format_st (ju.below hX) (by rw[pw];exact z1) (by omega)
  have hrf:=fun(A':Nat→Prop) (X:World) (ma:Value) (h:TRd A' X ma S0) (hA:∀q,A' q→q<X.heap.size)=>format8_any h ju.ok hA (by rw[pw];exact z1) (by omega)
  rw[←Hy] at o1 o5 o6 CL hfmt hrf;have hDlt:=ju.lt;obtain⟨aS,nS,cS,aL,nL,cL,cw,cf,f,lf,rfl⟩:=htr.sixn;have i4:=qH o1;have dJ:=qH o5;have j9:=qH o6;have HI:=qH o2;have Ce:=qH o3;have LK:=qH o4;have b8:=qH CL;have Em:=qH hfmt;have iR:=qH hrf;have Fw:=qH hDlt;have Bt:=qH GA;have ko:=qH htr;have ae:=qH (jW.out.trans (hb2.mono jW.out.size));have sQ:=qH jW.out.size;have Dd:=qH hb2;have gk:=qH (And.intro z1 z2);obtain⟨W3,hW3⟩:∃W3,W3=w2.alloc (Obj.cells #[.slice aS nS cS,.slice aL nL cL,.int .i64 cw,.int .i64 cf,.bool f,.int .i64 lf] 29):=⟨_,rfl⟩
  obtain⟨g12,t0⟩:∃g12,g12=w2.heap.size:=⟨_,rfl⟩
  have hb3:Below w2.heap.size w2 W3:=by rw[hW3];exact(Below.refl _ _).alloc (Nat.le_refl _) _
  have k8:Dv.Blk W3 g12 29 #[.slice aS nS cS,.slice aL nL cL,.int .i64 cw,.int .i64 cf,.bool f,.int .i64 lf]:=by rw[hW3,t0];exact heap_alloc_new w2 _
  have EQ:=qH hW3;have wa:=qH k8;have aj:=qH hb3;have tl:=qH t0;clear ju GA htr hb2 o1 o2 o3 o4 o5 o6 z1 z2 mF hY pw Kn CL Hy hfmt hrf hDlt hW3 t0 hb3 k8;go_wp2_with fail
  rw[←EQ.out,←tl.out];go_at_call 12;refine(Em.out _ aj.out).mono ?_;rintro e w4⟨rfl,D4,nl,qx,Ej⟩;have xd:¬D g12:=fun h=>by have:=Fw.out g12 h;have:=tl.out;omega
  have k8:=wa.out.same (qx.block g12 wa.out.lt xd);have Ig:TRd (fun j=>j<m2∨j=g12) W3 (.agg #[.slice aS nS cS,.slice aL nL cL,.int .i64 cw,.int .i64 cf,.bool f,.int .i64 lf]) S0:=ko.out.fr (D:=fun _=>False) (Fr.of_below aj.out) (fun _ h=>h.elim) (fun j hj=>hj.imp id fun h=>by have:=tl.out;omega);have rt:TRd (fun j=>D4 j∨j=g12) w4 (.agg #[.slice aS nS cS,.slice aL nL cL,.int .i64 cw,.int .i64 cf,.bool f,.int .i64 lf]) S0:=Ig.fr qx (fun j hj=> .inl (Bt.out j hj).2) (fun j hj=>by
   rcases hj with hj|hj
   ·rcases Ej j hj with h|h
    ·exact .inl (.inl (Bt.out j h).2)
    ·exact .inr h
   ·exact .inl (.inr hj))
  have yr:=iR.out _ w4 _ rt (fun q hq=>by rcases hq with hq|hq;exact nl.lt q hq;rw[hq];exact k8.lt);have EZ:=qH yr;have qN:=qH nl;have wl:∀j,D4 j→wk.heap.size≤j:=fun j hj=>by
   rcases Ej j hj with h|h
   ·exact(Bt.out j h).1
   ·have:=aj.out.size;have:=Dd.out.size;omega
  have yT:=qH wl;have G3:=qH k8;have ah:=qH (ae.out.trans ((aj.out.mono (Nat.le_of_eq rfl)).mono ae.out.size)|>.trans (qx.below (B:=w.heap.size) (fun j hj=>Nat.le_trans sQ.out (Bt.out j hj).1) (Nat.le_trans ae.out.size aj.out.size)));obtain⟨z0,z1,z2,z3,z4,z5⟩:=cl6 k8;clear xd k8 Ig rt yr nl qx Ej wl;go_wp2_with fail
  go_at_call 13;refine EZ.out.mono ?_;rintro e w5⟨M3,rfl,DH,aq⟩;obtain⟨Cb,BN,Ch,BU,BR,BL,BI,Cc,ff,BW,rfl⟩:=DH.sixn;obtain⟨W6,jp⟩:∃W6,W6=w5.alloc (Obj.cells #[.slice Cb BN Ch,.slice BU BR BL,.int .i64 BI,.int .i64 Cc,.bool ff,.int .i64 BW] 29):=⟨_,rfl⟩
  obtain⟨g13,tF⟩:∃g13,g13=w5.heap.size:=⟨_,rfl⟩
  have au:Below w5.heap.size w5 W6:=by rw[jp];exact(Below.refl _ _).alloc (Nat.le_refl _) _
  have pY:Below w4.heap.size w4 W6:=aq.trans (au.mono aq.size);have AG:Dv.Blk W6 g13 29 #[.slice Cb BN Ch,.slice BU BR BL,.int .i64 BI,.int .i64 Cc,.bool ff,.int .i64 BW]:=by rw[jp,tF];exact heap_alloc_new w5 _
  have hop:=open_any (qN.out.below pY) j9.out (by rw[dJ.out];exact Nat.zero_le _) (fun _=>dJ.out);rw[i4.out] at hop;have Ic:TRd (fun j=>D4 j∨j=g13) W6 (.agg #[.slice Cb BN Ch,.slice BU BR BL,.int .i64 BI,.int .i64 Cc,.bool ff,.int .i64 BW]) F0:=DH.fr (D:=fun _=>False) (Fr.of_below au) (fun _ h=>h.elim) (fun j hj=>by
   rcases hj with hj|hj
   ·exact .inl (.inl hj)
   ·exact .inr (by omega))
  have bU:=qH hop;have LZ:=qH Ic;have xT:=qH AG;have I5:=qH jp;have C0:=qH tF;have pI:=qH pY;have aG:=qH (ah.out.trans (pY.mono ah.out.size));have xn:¬D4 g13:=fun h=>by have:=qN.out.lt g13 h;have:=aq.size;omega
  have Gp:=qH xn;clear DH aq jp tF au pY AG hop Ic xn z0 z1 z2 z3 z4 z5;go_wp2_with fail
  rw[←I5.out,←C0.out];go_at_call 14;refine bU.out.mono ?_;rintro e w7⟨sv,rfl,aH⟩;obtain⟨_,M7,k7,qC,C7⟩:(0:Nat)=0∧∃M',Sto dg M' w7 sv Y∧Fr D4 W6 w7∧∀k,M' k→D4 k∨W6.heap.size≤k:=by
   rcases aH with ⟨h,_⟩|h
   ·exact absurd rfl h
   ·exact h
  obtain⟨g,Lf⟩:∃g,sv= .pointer (some ⟨g,0,none⟩):=by
   obtain⟨D,R,g,rv,h1,_⟩:=k7;exact⟨g,h1⟩
  subst Lf;have nT:=xT.out.same (qC.block g13 xT.out.lt Gp.out);have jx:TRd (fun j=>M7 j∨j=g13) w7 (.agg #[.slice Cb BN Ch,.slice BU BR BL,.int .i64 BI,.int .i64 Cc,.bool ff,.int .i64 BW]) F0:=LZ.out.fr qC (fun j hj=> .inl hj) (fun j hj=>by
   rcases hj with hj|hj
   ·rcases C7 j hj with h|h
    ·exact .inl (.inl h)
    ·exact .inr h
   ·exact .inl (.inr hj))
  have hro:=open8_any jx b8.out (fun q hq=>by rcases hq with hq|hq;exact k7.lt q hq;rw[hq];exact nT.lt) j9.out (by rw[dJ.out];exact Nat.zero_le _);rw[i4.out] at hro;have ly:=qH hro;have tD:=qH k7;have Dh:=qH (show ∀j,M7 j→w.heap.size≤j from fun j hj=>by
   rcases C7 j hj with h|h
   ·exact Nat.le_trans sQ.out (yT.out j h)
   ·exact Nat.le_trans aG.out.size h)
  have bJ:=qH (aG.out.trans (qC.below (B:=w.heap.size) (fun j hj=>Nat.le_trans sQ.out (yT.out j hj)) aG.out.size));obtain⟨z0,z1,z2,z3,z4,z5⟩:=cl6 nT;clear aH k7 qC C7 nT jx hro;go_wp2_with fail
  go_at_call 15;refine ly.out.mono ?_;rintro e w8⟨Mk,rfl,_,ec,vK⟩;obtain⟨CN,Eo,CT,C6,EJ,Ff,DD,Ep,fu,Ey,Gc,Ek,Fh,rfl,xy,wH⟩:=vK rfl;obtain⟨W9,vR⟩:∃W9,W9=w8.alloc (Obj.cells #[.slice CN Eo CT,.slice C6 EJ Ff,.int .i64 DD,.int .i64 Ep,.bool fu,.int .i64 Ey,.slice Gc Ek Fh,.int .i64 (Y.ep:Int),.int .i64 (Y.ar:Int),.int .i64 (Y.us:Int),.int .i64 (Y.fr:Int)] 42):=⟨_,rfl⟩
  obtain⟨g17,dB⟩:∃g17,g17=w8.heap.size:=⟨_,rfl⟩
  have fx:Below w8.heap.size w8 W9:=by rw[vR];exact(Below.refl _ _).alloc (Nat.le_refl _) _
  have nt:Below w7.heap.size w7 W9:=ec.trans (fx.mono ec.size);have jU:Dv.Blk W9 g17 42 #[.slice CN Eo CT,.slice C6 EJ Ff,.int .i64 DD,.int .i64 Ep,.bool fu,.int .i64 Ey,.slice Gc Ek Fh,.int .i64 (Y.ep:Int),.int .i64 (Y.ar:Int),.int .i64 (Y.us:Int),.int .i64 (Y.fr:Int)]:=by rw[vR,dB];exact heap_alloc_new w8 _
  have By:W9.heap.size=g17+1:=by rw[vR,dB];simp
  have FQ:=qH (show Duo (fun j=>j=g17) w.heap.size W9.heap.size dg W9 (.pointer (some ⟨g,0,none⟩)) Y (.agg #[.slice CN Eo CT,.slice C6 EJ Ff,.int .i64 DD,.int .i64 Ep,.bool fu,.int .i64 Ey,.slice Gc Ek Fh,.int .i64 (Y.ep:Int),.int .i64 (Y.ar:Int),.int .i64 (Y.us:Int),.int .i64 (Y.fr:Int)]) Y from⟨M7,tD.out.below nt,fun j hj=>⟨Dh.out j hj,fun h=>by have:=tD.out.lt j hj;have:=ec.size;omega,by have:=tD.out.lt j hj;have:=nt.size;omega⟩,Nat.le_trans bJ.out.size nt.size,Nat.le_refl _,fun j hj=>⟨by have:=bJ.out.size;have:=ec.size;omega,by omega⟩,
   (trs_mk xy wH).fr (D:=fun _=>False) (Fr.of_below fx) (fun _ h=>h.elim) (fun j hj=>by
    rcases hj with hj|hj
    ·exact .inl (.inl hj)
    ·exact .inr (by omega))⟩)
  have C9:=qH jU;have LG:=qH vR;have jt:=qH dB;have fP:=qH (bJ.out.trans (nt.mono bJ.out.size));clear ec vK xy wH vR dB fx nt jU By z0 z1 z2 z3 z4 z5;go_wp2_with fail
  rw[←LG.out,←jt.out]
  go_loopw [19] (fun i wr=>∃(j:Nat) (x:Ss) (tu:Array Value),j≤m∧i= .int .i64 j∧InvS x∧x.d.fuse=none∧x.n=sizeN k∧Dv.Blk wr g17 42 tu∧Duo (fun q=>q=g17) w.heap.size wr.heap.size dg wr (.pointer (some ⟨g,0,none⟩)) x (.agg tu) x∧Below w.heap.size w wr) (fun i _=>m-(intOf i).toNat)
  case atStart=>exact⟨0,Y,_,Nat.zero_le _,rfl,HI.out,Ce.out,LK.out,C9.out,FQ.out,fP.out⟩
  case round=>
   obtain⟨j,x,tu,hj,rfl,hI,dm,IE,GQ,hD,ai⟩:=hrel;obtain⟨aS,nS,cS,aL,nL,cL,cw,cf,f,lf,aR,nR,cR,vK⟩:=hD.shape;injection vK with vK;subst vK;have Ay:=qH hI;have En:=qH dm;have ID:=qH IE;have Fi:=qH GQ;have Bk:=qH hD;have vm:=qH ai;clear hI dm IE GQ hD ai;by_cases hlt:j<m
   ·obtain⟨b,off,dx,hA,hbb,_,KP⟩:=(HD.out.below vm.out).at_ HM.out hlt
    subst hA;obtain⟨_,⟨u2,d2,bi⟩,_,_,_,_,hcl,_⟩:=KP;have hch:=changeList_any u2 dx.c 6 (by omega) wr bi (by omega);obtain⟨A2,c2,rfl⟩:=rb_shape bi;have nZ:=qH hch;obtain⟨cs,hcs⟩:∃cs,cs=cOf dx.c:=⟨_,rfl⟩
    have mh:=cOf_few dx.c;rw[←hcs] at mh;have J0:=qH (show cs=(rowsAt dx.c (nrows dx.c 6)).map chgOf from hcs);have mL:=qH mh;rw[←J0.out] at nZ;have i6:(j:Int)<(m:Int):=by omega
    clear hch hcs mh bi;go_wp2_with fail
    go_at_call 23;refine nZ.out.mono ?_;rintro e w5⟨cv,rfl,dz,aq⟩;obtain⟨R,hR⟩:∃R,R=commitR x cs:=⟨_,rfl⟩
    obtain⟨s1,s2,_,_,_,_,_⟩:=commit_step (cs:=cs) Ay.out (fun _=>mL.out.2.2);have Do:=commit_fuse cs En.out;have tQ:=duo_ref (Bk.out.below aq) (Nat.le_refl _) Ay.out.good dz (by have:=mL.out.1;omega) (by have:=mL.out.2.1;omega);rw[←hR] at s1 s2 Do tQ;obtain⟨A5,c5,rfl,lX⟩:=rc_shape dz.rc;have jK:=qH s1;have xI:=qH s2;have eo:=qH Do;have Cs:=qH tQ;have rK:=qH dz;have bQ:=qH hR;have ay:=qH (vm.out.trans (aq.mono vm.out.size));have ao:=Fi.out.below aq Fi.out.lt;have zl:=ao.lt;obtain⟨z0,z1,z2,z3,z4,z5,z6,z7,z8,z9,bN⟩:=cl11 ao;have lh:=qH ao;clear s1 s2 Do tQ dz hR aq ao lX;go_wp2_with fail
    go_at_call 24;refine Cs.out.mono ?_;rintro e w6⟨Mm,rfl,sS,au⟩;obtain⟨vf,vu,vi,vw,vj,uZ,vM,vy,f8,lf8,vr,vc,vH,rfl⟩:=sS.shape;have Dj:=qH sS;have wX:=qH (ay.out.trans (au.mono ay.out.size));have Ed:=qH (rK.out.below au);have iV:=qH ((lh.out.below au lh.out.lt).alloc (Obj.cells #[.slice vf vu vi,.slice vw vj uZ,.int .i64 vM,.int .i64 vy,.bool f8,.int .i64 lf8,.slice vr vc vH,.int .i64 (R.1.ep:Int),.int .i64 (R.1.ar:Int),.int .i64 (R.1.us:Int),.int .i64 (R.1.fr:Int)] 42));clear sS au z0 z1 z2 z3 z4 z5 z6 z7 z8 z9 bN;go_wp2_with (refine wpList_store_row rfl 42 (.tmp 17) (.tmp 90) rfl g17 #[.slice vf vu vi,.slice vw vj uZ,.int .i64 vM,.int .i64 vy,.bool f8,.int .i64 lf8,.slice vr vc vH,.int .i64 (R.1.ep:Int),.int .i64 (R.1.ar:Int),.int .i64 (R.1.us:Int),.int .i64 (R.1.fr:Int)] rfl rfl 42 #[.slice aS nS cS,.slice aL nL cL,.int .i64 cw,.int .i64 cf,.bool f,.int .i64 lf,.slice aR nR cR,.int .i64 (x.ep:Int),.int .i64 (x.ar:Int),.int .i64 (x.us:Int),.int .i64 (x.fr:Int)] ?hg (elv42 _ _ _ _ _ _ _ _ _ _ _) rfl (all11 _ _ _ _ _ _ _ _ _ _ _ _ _ _ _ _ _) ?_;(case hg=>exact iV.out);obtain⟨wT,hwT,fm,lq⟩:∃wT,wT=(w6.alloc (Obj.cells #[.slice vf vu vi,.slice vw vj uZ,.int .i64 vM,.int .i64 vy,.bool f8,.int .i64 lf8,.slice vr vc vH,.int .i64 (R.1.ep:Int),.int .i64 (R.1.ar:Int),.int .i64 (R.1.us:Int),.int .i64 (R.1.fr:Int)] 42)).setRow g17 #[.slice vf vu vi,.slice vw vj uZ,.int .i64 vM,.int .i64 vy,.bool f8,.int .i64 lf8,.slice vr vc vH,.int .i64 (R.1.ep:Int),.int .i64 (R.1.ar:Int),.int .i64 (R.1.us:Int),.int .i64 (R.1.fr:Int)]∧Dv.Blk wT g17 42 #[.slice vf vu vi,.slice vw vj uZ,.int .i64 vM,.int .i64 vy,.bool f8,.int .i64 lf8,.slice vr vc vH,.int .i64 (R.1.ep:Int),.int .i64 (R.1.ar:Int),.int .i64 (R.1.us:Int),.int .i64 (R.1.fr:Int)]∧Fr (fun q=>q=g17) w6 wT:=⟨_,rfl,row_blk iV.out _,((Fr.refl (fun q=>q=g17) w6).alloc (Obj.cells #[.slice vf vu vi,.slice vw vj uZ,.int .i64 vM,.int .i64 vy,.bool f8,.int .i64 lf8,.slice vr vc vH,.int .i64 (R.1.ep:Int),.int .i64 (R.1.ar:Int),.int .i64 (R.1.us:Int),.int .i64 (R.1.fr:Int)] 42)).trans (row_fr _ g17 _) (fun q hq=> .inl hq)⟩;rw[←hwT];clear hwT;have ft:=qH fm;have de:=qH lq;clear fm lq)
    go_at_call 25;have IF:w.heap.size≤g17:=(Bk.out.lt g17 rfl).1;have Ij:g17<wr.heap.size:=(Bk.out.lt g17 rfl).2;have AP:OC 5 76 wT wr.heap.size (.slice A5 cs.length c5) cs:=oc_fr Ed.out de.out (fun q hq=>by omega);have qP:=duo_prog (Dj.out.fr de.out (fun q hq=>hq)) (Nat.le_refl _) Ay.out.good AP (by have:=mL.out.1;omega) (by have:=mL.out.2.1;omega);rw[←bQ.out] at qP;have Kt:=qH qP;have cM:=qH (wX.out.trans (de.out.below (B:=w.heap.size) (fun q hq=>by omega) wX.out.size));clear qP AP;refine Kt.out.mono ?_;rintro e MC⟨rfl,Hg,bR,k7⟩;have L0:=qH Hg;have DY:=qH (cM.out.trans bR);have nd:=qH (ft.out.same (k7 g17 rfl));clear Hg bR k7;go_wp2;go_roundw
    case rel=>exact⟨j+1,R.1,_,by omega,by go_num,jK.out,eo.out,xI.out.trans ID.out,nd.out,L0.out,DY.out⟩
    case measure=>simp[intOf];omega
   ·have hjm:j=m:=by omega
    subst hjm;have ao:=Fi.out;have zl:=ao.lt;obtain⟨z0,z1,z2,z3,z4,z5,z6,z7,z8,z9,bN⟩:=cl11 ao;have lS:∃D,Dev D wr (dp dg) x.d∧(∀q,D q→w.heap.size≤q)∧TRd D wr (.agg #[.slice aS nS cS,.slice aL nL cL,.int .i64 cw,.int .i64 cf,.bool f,.int .i64 lf]) x.d:=by
     obtain⟨M,⟨D,R,g',rv,_,h1⟩,h2,_,_,_,⟨Kq,Ll,LY,JC,Ku,LA,Jz,Kf,fz,LU,Mu,Me,Mq,h6,h7,_⟩⟩:=Bk.out;refine⟨D,h1.dev,fun q hq=>(h2 q ((h1.hM q).2 (.inl hq))).1,?_⟩;injection h6 with h6;have e:(.agg #[.slice aS nS cS,.slice aL nL cL,.int .i64 cw,.int .i64 cf,.bool f,.int .i64 lf]:Value)= .agg #[.slice Kq Ll LY,.slice JC Ku LA,.int .i64 Jz,.int .i64 Kf,.bool fz,.int .i64 LU]:=by
      have h8:=congrArg (fun z:Array Value=>(z[0]?,z[1]?,z[2]?,z[3]?,z[4]?,z[5]?)) h6;simp at h8;obtain⟨⟨e1,e2,e3⟩,⟨e4,e5,e6⟩,e7,e8,e9,e10⟩:=h8;subst e1;subst e2;subst e3;subst e4;subst e5;subst e6;subst e7;subst e8;subst e9;subst e10;rfl
     rw[e];exact h7.wide (fun q hq=> .inl ((h1.hM q).2 (.inl hq)))
    obtain⟨D0,mY,AE,yw⟩:=lS;obtain⟨W,hW⟩:∃W,W=wr.alloc (Obj.cells #[.slice aS nS cS,.slice aL nL cL,.int .i64 cw,.int .i64 cf,.bool f,.int .i64 lf] 29):=⟨_,rfl⟩
    obtain⟨g23,pX⟩:∃g23,g23=wr.heap.size:=⟨_,rfl⟩
    have hbW:Below wr.heap.size wr W:=by rw[hW];exact(Below.refl _ _).alloc (Nat.le_refl _) _
    have Ah:Dv.Blk W g23 29 #[.slice aS nS cS,.slice aL nL cL,.int .i64 cw,.int .i64 cf,.bool f,.int .i64 lf]:=by rw[hW,pX];exact heap_alloc_new wr _
    have yF:∀q,D0 q→q≠g23:=fun q hq h=>by have:=mY.lt q hq;omega
    have Am:=qH (show OK x.d∧x.d.loose= []∧x.d.fuse=none∧x.d.firm.length=sizeN k from⟨Ay.out.good.ok,Ay.out.good.calm (goes_none En.out),En.out,ID.out⟩);have Le:=qH (show ∃D,Dev D W (dp dg) x.d∧(∀q,D q→w.heap.size≤q∧q≠g23)∧TRd (fun q=>D q∨q=g23) W (.agg #[.slice aS nS cS,.slice aL nL cL,.int .i64 cw,.int .i64 cf,.bool f,.int .i64 lf]) x.d from⟨D0,mY.below hbW,fun q hq=>⟨AE q hq,yF q hq⟩,yw.fr (D:=fun _=>False) (Fr.of_below hbW) (fun _ h=>h.elim) (fun q hq=>by
     rcases hq with hq|hq
     ·exact .inl hq
     ·exact .inr (by omega))⟩)
    have CM:=qH Ah;have Jp:=qH hW;have Ea:=qH pX;have aw:=qH (vm.out.trans (hbW.mono vm.out.size));have j7:=qH (show w.heap.size≤g23 by rw[pX];exact vm.out.size);have MR:¬(j:Int)<(j:Int):=by omega
    clear mY AE yw hW pX hbW Ah yF ao;go_wp2_with fail
    rw[←Jp.out,←Ea.out]
    go_loopw [24] (fun i wr=>∃(q:Nat) (s:Sim) (tx:Array Value),i= .int .i64 q∧q≤la.length∧q≤lb.length∧(OK s∧s.loose= []∧s.fuse=none∧s.firm.length=sizeN k)∧Dv.Blk wr g23 29 tx∧(∃D,Dev D wr (dp dg) s∧(∀z,D z→w.heap.size≤z∧z≠g23)∧TRd (fun z=>D z∨z=g23) wr (.agg tx) s)∧Below w.heap.size w wr) (fun i _=>la.length-(intOf i).toNat)
    case atStart=>exact⟨0,x.d,_,rfl,Nat.zero_le _,Nat.zero_le _,Am.out,CM.out,Le.out,aw.out⟩
    case round=>
     obtain⟨q,s,tx,rfl,MI,vB,hS,dh,⟨D,ju,Gx,htr⟩,ai⟩:=hrel;obtain⟨aS,nS,cS,aL,nL,cL,cw,cf,f,lf,htx⟩:=htr.sixn;injection htx with htx;subst htx;have jT:=qH hS;have km:=qH dh;have kf:=qH ju;have eG:=qH Gx;have xR:=qH htr;have eF:=qH ai;clear hS dh ju Gx htr ai;by_cases h1:q<la.length
     rotate_left
     ·have KH:q=la.length:=by omega
      have h1':¬(q:Int)<(la.length:Int):=by omega
      clear KH;have kE:=openR_both s;obtain⟨cJ,hf2⟩:64≤s.firm.length∧s.loose.length≤8000:=⟨by rw[jT.out.2.2.2];exact gk.out.1,by rw[jT.out.2.1];exact Nat.zero_le _⟩
      have hop:=open_any kf.out cJ hf2 (fun _=>jT.out.2.1);have dZ:=fun(A':Nat→Prop) (X:World) (h:TRd A' X (.agg #[.slice aS nS cS,.slice aL nL cL,.int .i64 cw,.int .i64 cf,.bool f,.int .i64 lf]) s) (hA:∀z,A' z→z<X.heap.size)=>open8_any h jT.out.1 hA cJ hf2
      have hgx:=fun h=>kE.2 jT.out.1 cJ hf2 (fun _=>jT.out.2.1) h
      obtain⟨R,hR⟩:∃R,R=openR s:=⟨_,rfl⟩
      rw[←hR] at kE hop dZ hgx;obtain⟨e1,X⟩:=R;have yA:=qH (show e1≤32 from kE.1);have bU:=qH hop;have CP:=qH dZ;have zH:=qH hgx;clear kE hop dZ hgx hR cJ hf2;go_wp2_with fail
      go_at_call 14;refine bU.out.mono ?_;rintro e wo⟨so,rfl,aH⟩;have hfo:Fr D wr wo:=by
       rcases aH with ⟨_,_,h⟩|⟨_,M',_,h,_⟩
       ·exact Fr.of_below h
       ·exact h
      have hko:=km.out.same (hfo.block g23 km.out.lt (fun h=>(eG.out g23 h).2 rfl));have h8:=CP.out _ wo (xR.out.fr hfo (fun z hz=> .inl hz) (fun z hz=> .inl hz)) (fun z hz=>Nat.lt_of_lt_of_le (by rcases hz with hz|hz;exact kf.out.lt z hz;rw[hz];exact km.out.lt) hfo.size);have H8:=qH h8;have vX:=qH (eF.out.trans (hfo.below (B:=w.heap.size) (fun z hz=>(eG.out z hz).1) eF.out.size));have ct:=qH aH;obtain⟨z0,z1,z2,z3,z4,z5⟩:=cl6 hko;clear h8 hfo hko aH;go_wp2_with fail
      go_at_call 15;refine H8.out.mono ?_;rintro e wp⟨tp,rfl,⟨AZ,zt,xD,xF,zK,yl,yt,xU,fp,wS,zZ,zo,ym,p0,p1,p2,p3,rfl⟩,mz,yf⟩;have mq:=qH mz;have F5:=qH yf;clear mz yf;go_wp2_with fail
      obtain⟨Wq,qJ⟩:∃Wq,Wq=wp.alloc (Obj.cells #[.slice AZ zt xD,.slice xF zK yl,.int .i64 yt,.int .i64 xU,.bool fp,.int .i64 wS,.slice zZ zo ym,.int .i64 p0,.int .i64 p1,.int .i64 p2,.int .i64 p3] 42):=⟨_,rfl⟩
      obtain⟨gq,tM⟩:∃gq,gq=wp.heap.size:=⟨_,rfl⟩
      have kD:Below wp.heap.size wp Wq:=by rw[qJ];exact(Below.refl _ _).alloc (Nat.le_refl _) _
      have iV:=qH (show Dv.Blk Wq gq 42 #[.slice AZ zt xD,.slice xF zK yl,.int .i64 yt,.int .i64 xU,.bool fp,.int .i64 wS,.slice zZ zo ym,.int .i64 p0,.int .i64 p1,.int .i64 p2,.int .i64 p3] by rw[qJ,tM];exact heap_alloc_new wp _);have nc:=qH (mq.out.trans (kD.mono mq.out.size));have sZ:=qH (fun h=>(F5.out h).fr (D:=fun _=>False) (Fr.of_below kD) (fun _ h=>h.elim) (fun _ h=> .inl h));have eN:=qH (vX.out.trans (nc.out.mono vX.out.size));rw[←qJ,←tM];clear qJ tM kD;refine(layout_any n lJ.out.1 lJ.out.2 _).mono ?_;rintro e _⟨rfl,rfl⟩;go_wp2_with fail
      go_at_call 30;refine(layout8_any n lJ.out.1 lJ.out.2 _).mono ?_;rintro e _⟨rfl,rfl⟩;go_wp2_with fail
      have oz:(k:Int)%64=((k%64:Nat):Int):=by omega
      have hk4:k%64<64:=by omega
      rw[oz];have cA:=qH (own_new (B:=Wq.heap.size) (k%64) Wq (by omega) (Nat.le_refl _));clear oz;obtain⟨xe,nz⟩:∃xe,xe=k%64:=⟨_,rfl⟩
      rw[←nz] at cA hk4⊢;have mZ:=qH hk4;clear nz hk4;refine cA.out.mono ?_;rintro e wn⟨gn,rfl,⟨Dn,yW,_,_⟩,lK⟩;have wL:=qH yW;have iL:=qH lK;have Lz:=qH (lay_pos n);have Gn:=lay_pos n;obtain⟨lj,mN⟩:∃lj,lj=layJ n:=⟨_,rfl⟩
      obtain⟨AX,oC⟩:∃AX,AX=layA n:=⟨_,rfl⟩
      rw[←mN] at Gn⊢;rw[←oC];clear yW lK mN oC;have CG:=yA.out;have Ix:IntKind.i64.wrap (e1:Int)=(e1:Int):=by rw[IntKind.wrap_i64];omega
      have hkn:=iV.out.below iL.out iV.out.lt;by_cases h0:e1=0
      ·subst h0
       obtain⟨M',hst,_,_⟩:∃M',Sto dg M' wo so X∧Fr D wr wo∧∀z,M' z→D z∨wr.heap.size≤z:=by
        rcases ct.out with ⟨h,_⟩|⟨_,h⟩
        ·exact absurd rfl h
        ·exact h
       obtain⟨gS,rfl⟩:∃gS,so= .pointer (some ⟨gS,0,none⟩):=by
        obtain⟨D,R,g,rv,h1,_⟩:=hst;exact⟨g,h1⟩
       have hsa:=same8_any ((hst.below nc.out).below iL.out) (zH.out rfl) ((sZ.out rfl).fr (D:=fun _=>False) (Fr.of_below iL.out) (fun _ h=>h.elim) (fun _ h=> .inl h));have Fe:=qH hsa;have zl:=hkn.lt;obtain⟨z0,z1,z2,z3,z4,z5,z6,z7,z8,z9,bN⟩:=cl11 hkn;clear hst hsa hkn;go_wp2_with fail
       refine Fe.out.mono ?_;rintro e wm⟨rfl,sL⟩;have de:=qH (format_small (wL.out.below sL) (by rw[new_firm];exact mZ.out));have CY:=qH ((eN.out.trans (iL.out.mono eN.out.size)).trans (sL.mono (eN.out.trans (iL.out.mono eN.out.size)).size));clear sL z0 z1 z2 z3 z4 z5 z6 z7 z8 z9 bN;go_wp2_with fail
       refine de.out.mono ?_;rintro e _⟨rfl,rfl⟩;go_wp2;go_ret;exact⟨rfl,CY.out⟩
      ·have h0':¬(e1:Int)=0:=by omega
       obtain⟨rfl,_⟩:so= .pointer none∧Below wr.heap.size wr wo:=by
        rcases ct.out with ⟨_,h⟩|⟨h,_⟩
        ·exact h
        ·exact absurd h h0
       clear hkn;go_wp2_with fail
       refine(format_small wL.out (by rw[new_firm];exact mZ.out)).mono ?_;rintro e _⟨rfl,rfl⟩;go_wp2;go_ret;exact⟨rfl,eN.out.trans (iL.out.mono eN.out.size)⟩
     by_cases h2:q<lb.length
     rotate_left
     ·have h2':¬(q:Int)<(lb.length:Int):=by omega
      have h1':(q:Int)<(la.length:Int):=by omega
      have kE:=openR_both s;obtain⟨cJ,hf2⟩:64≤s.firm.length∧s.loose.length≤8000:=⟨by rw[jT.out.2.2.2];exact gk.out.1,by rw[jT.out.2.1];exact Nat.zero_le _⟩
      have hop:=open_any kf.out cJ hf2 (fun _=>jT.out.2.1);have dZ:=fun(A':Nat→Prop) (X:World) (h:TRd A' X (.agg #[.slice aS nS cS,.slice aL nL cL,.int .i64 cw,.int .i64 cf,.bool f,.int .i64 lf]) s) (hA:∀z,A' z→z<X.heap.size)=>open8_any h jT.out.1 hA cJ hf2
      have hgx:=fun h=>kE.2 jT.out.1 cJ hf2 (fun _=>jT.out.2.1) h
      obtain⟨R,hR⟩:∃R,R=openR s:=⟨_,rfl⟩
      rw[←hR] at kE hop dZ hgx;obtain⟨e1,X⟩:=R;have yA:=qH (show e1≤32 from kE.1);have bU:=qH hop;have CP:=qH dZ;have zH:=qH hgx;clear kE hop dZ hgx hR cJ hf2;go_wp2_with fail
      go_at_call 14;refine bU.out.mono ?_;rintro e wo⟨so,rfl,aH⟩;have hfo:Fr D wr wo:=by
       rcases aH with ⟨_,_,h⟩|⟨_,M',_,h,_⟩
       ·exact Fr.of_below h
       ·exact h
      have hko:=km.out.same (hfo.block g23 km.out.lt (fun h=>(eG.out g23 h).2 rfl));have h8:=CP.out _ wo (xR.out.fr hfo (fun z hz=> .inl hz) (fun z hz=> .inl hz)) (fun z hz=>Nat.lt_of_lt_of_le (by rcases hz with hz|hz;exact kf.out.lt z hz;rw[hz];exact km.out.lt) hfo.size);have H8:=qH h8;have vX:=qH (eF.out.trans (hfo.below (B:=w.heap.size) (fun z hz=>(eG.out z hz).1) eF.out.size));have ct:=qH aH;obtain⟨z0,z1,z2,z3,z4,z5⟩:=cl6 hko;clear h8 hfo hko aH;go_wp2_with fail
      go_at_call 15;refine H8.out.mono ?_;rintro e wp⟨tp,rfl,⟨AZ,zt,xD,xF,zK,yl,yt,xU,fp,wS,zZ,zo,ym,p0,p1,p2,p3,rfl⟩,mz,yf⟩;have mq:=qH mz;have F5:=qH yf;clear mz yf;go_wp2_with fail
      obtain⟨Wq,qJ⟩:∃Wq,Wq=wp.alloc (Obj.cells #[.slice AZ zt xD,.slice xF zK yl,.int .i64 yt,.int .i64 xU,.bool fp,.int .i64 wS,.slice zZ zo ym,.int .i64 p0,.int .i64 p1,.int .i64 p2,.int .i64 p3] 42):=⟨_,rfl⟩
      obtain⟨gq,tM⟩:∃gq,gq=wp.heap.size:=⟨_,rfl⟩
      have kD:Below wp.heap.size wp Wq:=by rw[qJ];exact(Below.refl _ _).alloc (Nat.le_refl _) _
      have iV:=qH (show Dv.Blk Wq gq 42 #[.slice AZ zt xD,.slice xF zK yl,.int .i64 yt,.int .i64 xU,.bool fp,.int .i64 wS,.slice zZ zo ym,.int .i64 p0,.int .i64 p1,.int .i64 p2,.int .i64 p3] by rw[qJ,tM];exact heap_alloc_new wp _);have nc:=qH (mq.out.trans (kD.mono mq.out.size));have sZ:=qH (fun h=>(F5.out h).fr (D:=fun _=>False) (Fr.of_below kD) (fun _ h=>h.elim) (fun _ h=> .inl h));have eN:=qH (vX.out.trans (nc.out.mono vX.out.size));rw[←qJ,←tM];clear qJ tM kD;refine(layout_any n lJ.out.1 lJ.out.2 _).mono ?_;rintro e _⟨rfl,rfl⟩;go_wp2_with fail
      go_at_call 30;refine(layout8_any n lJ.out.1 lJ.out.2 _).mono ?_;rintro e _⟨rfl,rfl⟩;go_wp2_with fail
      have oz:(k:Int)%64=((k%64:Nat):Int):=by omega
      have hk4:k%64<64:=by omega
      rw[oz];have cA:=qH (own_new (B:=Wq.heap.size) (k%64) Wq (by omega) (Nat.le_refl _));clear oz;obtain⟨xe,nz⟩:∃xe,xe=k%64:=⟨_,rfl⟩
      rw[←nz] at cA hk4⊢;have mZ:=qH hk4;clear nz hk4;refine cA.out.mono ?_;rintro e wn⟨gn,rfl,⟨Dn,yW,_,_⟩,lK⟩;have wL:=qH yW;have iL:=qH lK;have Lz:=qH (lay_pos n);have Gn:=lay_pos n;obtain⟨lj,mN⟩:∃lj,lj=layJ n:=⟨_,rfl⟩
      obtain⟨AX,oC⟩:∃AX,AX=layA n:=⟨_,rfl⟩
      rw[←mN] at Gn⊢;rw[←oC];clear yW lK mN oC;have CG:=yA.out;have Ix:IntKind.i64.wrap (e1:Int)=(e1:Int):=by rw[IntKind.wrap_i64];omega
      have hkn:=iV.out.below iL.out iV.out.lt;by_cases h0:e1=0
      ·subst h0
       obtain⟨M',hst,_,_⟩:∃M',Sto dg M' wo so X∧Fr D wr wo∧∀z,M' z→D z∨wr.heap.size≤z:=by
        rcases ct.out with ⟨h,_⟩|⟨_,h⟩
        ·exact absurd rfl h
        ·exact h
       obtain⟨gS,rfl⟩:∃gS,so= .pointer (some ⟨gS,0,none⟩):=by
        obtain⟨D,R,g,rv,h1,_⟩:=hst;exact⟨g,h1⟩
       have hsa:=same8_any ((hst.below nc.out).below iL.out) (zH.out rfl) ((sZ.out rfl).fr (D:=fun _=>False) (Fr.of_below iL.out) (fun _ h=>h.elim) (fun _ h=> .inl h));have Fe:=qH hsa;have zl:=hkn.lt;obtain⟨z0,z1,z2,z3,z4,z5,z6,z7,z8,z9,bN⟩:=cl11 hkn;clear hst hsa hkn;go_wp2_with fail
       refine Fe.out.mono ?_;rintro e wm⟨rfl,sL⟩;have de:=qH (format_small (wL.out.below sL) (by rw[new_firm];exact mZ.out));have CY:=qH ((eN.out.trans (iL.out.mono eN.out.size)).trans (sL.mono (eN.out.trans (iL.out.mono eN.out.size)).size));clear sL z0 z1 z2 z3 z4 z5 z6 z7 z8 z9 bN;go_wp2_with fail
       refine de.out.mono ?_;rintro e _⟨rfl,rfl⟩;go_wp2;go_ret;exact⟨rfl,CY.out⟩
      ·have h0':¬(e1:Int)=0:=by omega
       obtain⟨rfl,_⟩:so= .pointer none∧Below wr.heap.size wr wo:=by
        rcases ct.out with ⟨_,h⟩|⟨h,_⟩
        ·exact h
        ·exact absurd h h0
       clear hkn;go_wp2_with fail
       refine(format_small wL.out (by rw[new_firm];exact mZ.out)).mono ?_;rintro e _⟨rfl,rfl⟩;go_wp2;go_ret;exact⟨rfl,eN.out.trans (iL.out.mono eN.out.size)⟩
     obtain⟨ba,oa,rfl,o8,kM⟩:=rb_cell JR.out h1;obtain⟨bb2,ob,rfl,iI,hcb⟩:=rb_cell Je.out h2;obtain⟨n1,fL⟩:∃n1,n1=(la[q]).toNat:=⟨_,rfl⟩
     obtain⟨n2,fU⟩:∃n2,n2=(lb[q]).toNat:=⟨_,rfl⟩
     obtain⟨zz,hzz⟩:∃zz:UInt8,zz=la[q]^^^lb[q]:=⟨_,rfl⟩
     have hb1:n1<256:=by rw[fL];exact UInt8.toNat_lt _
     have hb2:n2<256:=by rw[fU];exact UInt8.toNat_lt _
     have Gb:bits .xor .u8 (n1:Int) (n2:Int)=(zz.toNat:Int):=by rw[u8_xor_nat n1 n2 hb1 hb2,hzz,UInt8.toNat_xor,fL,fU]
     unfold bv at kM hcb;rw[←fL] at kM;rw[←fU] at hcb;have td:=qH kM;have xf:=qH hcb;have xN:=gk.out;obtain⟨sz,hsz⟩:∃sz,sz=sizeN k:=⟨_,rfl⟩
     have uy:=fun X=>size_any k hk X
     rw[←hsz] at uy xN;have mU:=qH uy;have hsp:=fun(A':Nat→Prop) (X:World) (h:TRd A' X (.agg #[.slice aS nS cS,.slice aL nL cL,.int .i64 cw,.int .i64 cf,.bool f,.int .i64 lf]) s) (hA:∀z,A' z→z<X.heap.size)=>refspoil_any ((n1%sz:Nat):Int) ((n2%64:Nat):Int) zz h jT.out.1 hA
     have nn:=fun(X:World) (hX:Dev D X (dp dg) s)=>spoil_any ((n1%sz:Nat):Int) ((n2%64:Nat):Int) zz hX
     have ur:s.can ((n1%sz:Nat):Int) ((n2%64:Nat):Int)=true:=by
      have h9:=jT.out.2.2.2;have h8:n1%sz<sz:=Nat.mod_lt _ (by omega);unfold Sim.can Sim.has;simp only[Bool.and_eq_true,decide_eq_true_eq];rw[h9,←hsz];omega
     obtain⟨s2,hs2⟩:∃s2,s2=s.spoil ((n1%sz:Nat):Int) ((n2%64:Nat):Int) zz:=⟨_,rfl⟩
     have IA:OK s2∧s2.loose= []∧s2.fuse=none∧s2.firm.length=sizeN k:=by
      obtain⟨a1,a2,a3,a4⟩:=jT.out;rw[hs2];refine⟨a1.spoil _ _ _,?_,?_,?_⟩<;>(unfold Sim.spoil;rw[ur,if_pos rfl])
      ·exact a2
      ·exact a3
      ·show(s.firm.set _ _).length=_
       rw[List.length_set];exact a4
     rw[ur,←hs2] at hsp nn;unfold bv at hsp nn;obtain⟨i1,hi1⟩:∃i1:Int,i1=((n1%sz:Nat):Int):=⟨_,rfl⟩
     obtain⟨i2,hi2⟩:∃i2:Int,i2=((n2%64:Nat):Int):=⟨_,rfl⟩
     rw[←hi1,←hi2] at hsp nn;have sN:=qH hsp;have ti:=qH nn;have dX:=qH IA;have hz0:¬sz=0:=by omega
     have hx1:IntKind.i64.wrap (n1:Int)=(n1:Int):=by rw[IntKind.wrap_i64];omega
     have hx2:(n1:Int).tmod (sz:Int)=i1:=by rw[Int.tmod_eq_emod_of_nonneg (by omega),hi1,Int.natCast_emod]
     have hx3:(n2:Int).tmod 64=i2:=by rw[Int.tmod_eq_emod_of_nonneg (by omega),hi2,Int.natCast_emod];rfl
     have BJ:IntKind.i64.wrap i2=i2:=by rw[IntKind.wrap_i64];omega
     have sP:(n2:Int)%64=i2:=by omega
     have MB:=qH (show 0≤i2∧i2<64 from by omega);clear fL fU hzz hb1 hb2 kM hcb xN hsz uy hsp nn ur hs2 IA hi1 hi2;have D6:=qH (show ∀z,(D z∨z=g23)→z<wr.heap.size from fun z hz=>by
      rcases hz with hz|hz
      ·exact kf.out.lt z hz
      ·rw[hz];exact km.out.lt)
     have q1:(0:Int)≤(q:Int):=by omega
     have q2:(q:Int)<(la.length:Int):=by omega
     have q3:(q:Int)<(lb.length:Int):=by omega
     have ao:=km.out;obtain⟨z0,z1,z2,z3,z4,z5⟩:=cl6 ao;clear ao;go_wp2_with fail
     refine wp_region_held_drew (S:=fun X=>Below wr.heap.size wr X) (by kernel_rfl) ((Below.refl _ _).drew) (fun hHeld=>?_);refine tkA 0 (v:=?_) ?_ ?_;rotate_left
     ·intro W hSw;have cE:=km.out.below hSw km.out.lt;have z0:=cE.cell 0;have z1:=cE.cell 1;have z2:=cE.cell 2;have z3:=cE.cell 3;have z4:=cE.cell 4;have z5:=cE.cell 5;simp at z0 z1 z2 z3 z4 z5;go_simp;try (with_reducible rfl)
     try simp only[Act.put,zA,zB,zC]
     refine tkC 1 ?_;refine tkC 2 ?_;refine tkC 3 ?_;refine tkA 4 (v:=?_) ?_ ?_;rotate_left
     ·intro W hSw;have hq:=(hSw.cell (p:=⟨ba,oa+q,none⟩) (Nat.lt_of_lt_of_le o8 eF.out.size)).trans ((eF.out.cell (p:=⟨ba,oa+q,none⟩) o8).trans td.out);go_simp;try (with_reducible rfl)
     try simp only[Act.put,zA,zB,zC]
     refine tkC 5 ?_;refine tkC 6 ?_;refine tkC 9 ?_;refine tkC 10 ?_;refine tkC 11 ?_;refine tkA 12 (v:=?_) ?_ ?_;rotate_left
     ·intro W hSw;have hq:=(hSw.cell (p:=⟨bb2,ob+q,none⟩) (Nat.lt_of_lt_of_le iI eF.out.size)).trans ((eF.out.cell (p:=⟨bb2,ob+q,none⟩) iI).trans xf.out);go_simp;try (with_reducible rfl)
     try simp only[Act.put,zA,zB,zC]
     refine tkC 13 ?_;refine tkC 14 ?_;refine tkC 15 ?_;refine tkC 16 ?_;refine tkC 17 ?_;refine tkA 18 (v:=?_) ?_ ?_;rotate_left
     ·intro W hSw;have hq:=(hSw.cell (p:=⟨ba,oa+q,none⟩) (Nat.lt_of_lt_of_le o8 eF.out.size)).trans ((eF.out.cell (p:=⟨ba,oa+q,none⟩) o8).trans td.out);go_simp;try (with_reducible rfl)
     try simp only[Act.put,zA,zB,zC]
     refine tkC 19 ?_;refine tkC 20 ?_;refine tkC 21 ?_;refine tkA 22 (v:=?_) ?_ ?_;rotate_left
     ·intro W hSw;have hq:=(hSw.cell (p:=⟨bb2,ob+q,none⟩) (Nat.lt_of_lt_of_le iI eF.out.size)).trans ((eF.out.cell (p:=⟨bb2,ob+q,none⟩) iI).trans xf.out);go_simp;try (with_reducible rfl)
     try simp only[Act.put,zA,zB,zC]
     refine tkC 23 ?_;refine rdA (rs:= [7,28]) ?_;refine AllReadyH.cons (o:=⟨some 116,.call ⟨.value (.func 27),#[.tmp 115],#[5]⟩,3,"law.go:129",#[⟨6,.data⟩],none⟩) rfl (fun K hK=>?_) (AllReadyH.cons (o:=⟨some 25,.alloc 29,0,"law.go:129",#[],none⟩) rfl (fun K hK=>?_) AllReadyH.nil)
     ·go_simp
      refine(mU.out _).mono ?_;rintro e wA⟨rfl,iW⟩;have t6:=hHeld.trans (iW.mono hHeld.size);clear iW;refine hK.out _ _ ?_ (fun hHeld=>?_)
      ·exact t6
      clear hK K;try simp only[Act.put,zA,zB,zC]
      refine tkC 8 ?_;refine rdA (rs:= [24,28]) ?_;refine AllReadyH.cons (o:=⟨some 133,.call ⟨.value (.func 26),#[.tmp 109,.tmp 117,.tmp 123,.tmp 132],#[29,3,3,5]⟩,61,"law.go:129",#[⟨0,.data⟩,⟨8,.data⟩,⟨14,.data⟩,⟨23,.data⟩,⟨7,.chain⟩],none⟩) rfl (fun K hK=>?_) (AllReadyH.cons (o:=⟨some 25,.alloc 29,0,"law.go:129",#[],none⟩) rfl (fun K hK=>?_) AllReadyH.nil)
      ·go_simp
       refine(sN.out _ _ (xR.out.below hHeld) (fun z hz=>Nat.lt_of_lt_of_le (D6.out z hz) hHeld.size)).mono ?_;rintro e wB⟨Ia,rfl,oW,jA⟩;obtain⟨gD,gM,ik,gz,gB,gv,g9,gR,fB,il,rfl⟩:=oW.sixn;have tT:=qH oW;have oT:=hHeld.trans (jA.mono hHeld.size);clear oW jA;refine hK.out _ _ ?_ (fun hHeld=>?_)
       ·exact oT
       clear hK K;try simp only[Act.put,zA,zB,zC]
       refine tkC 25 ?_;refine tkC 26 ?_;refine tkC 27 ?_;refine rdA (rs:= [28]) ?_;refine arC (fun K hK=>?_);go_simp;obtain⟨wC,kA⟩:∃X,X=wB.alloc (Obj.cells #[.slice none 0 0,.slice none 0 0,.int .i64 0,.int .i64 0,.bool false,.int .i64 0] 29):=⟨_,rfl⟩
       obtain⟨gC,dW⟩:∃g,g=wB.heap.size:=⟨_,rfl⟩
       rw[←kA,←dW];have gi:Below wr.heap.size wr wC:=by rw[kA];exact hHeld.alloc hHeld.size _
       have gW:=qH (show Dv.Blk wC gC 29 #[.slice none 0 0,.slice none 0 0,.int .i64 0,.int .i64 0,.bool false,.int .i64 0] by rw[kA,dW];exact heap_alloc_new _ _);have lc:=qH (show wr.heap.size≤gC by rw[dW];exact hHeld.size);have tT:=qH (tT.out.up_ (n:=gC) (m:=gC+1) (show Below wB.heap.size wB wC by rw[kA];exact(Below.refl _ _).alloc (Nat.le_refl _) _) (Nat.le_of_eq dW.symm));clear kA dW;refine hK.out _ _ ?_ (fun hHeld=>?_)
       ·exact gi
       clear hK K;try simp only[Act.put,zA,zB,zC]
       refine rdA (rs:= [29]) ?_;refine arC (fun K hK=>?_);have a9:=gW.out;obtain⟨y0,y1,y2,y3,y4,y5⟩:=cl6 a9;have df:=a9.frozen;have dl:=a9.lt;go_simp;try rw[six_def]
       refine hK.out _ _ ?_ (fun hHeld=>?_)
       ·exact(hHeld.trans ((six_fr wC gC (.slice gD gM ik) (.slice gz gB gv) (.int .i64 g9) (.int .i64 gR) (.bool fB) (.int .i64 il)).below (B:=wr.heap.size) (fun q hq=>by have:=lc.out;omega) hHeld.size))
       clear hK K;try simp only[Act.put,zA,zB,zC]
       refine tkC 30 ?_;refine wpAnyH_done (by kernel_rfl) ?_ _;have ri:=qH (six_here gW.out (.slice gD gM ik) (.slice gz gB gv) (.int .i64 g9) (.int .i64 gR) (.bool fB) (.int .i64 il));have sd:=qH (tT.out.st (six_fr wC gC (.slice gD gM ik) (.slice gz gB gv) (.int .i64 g9) (.int .i64 gR) (.bool fB) (.int .i64 il)) (fun q hq=>by omega));generalize (sixC wC gC (.slice gD gM ik) (.slice gz gB gv) (.int .i64 g9) (.int .i64 gR) (.bool fB) (.int .i64 il))=wF at ri sd hHeld⊢;have iw:=qH hHeld;clear hHeld;have qY:=ri.out;obtain⟨y0,y1,y2,y3,y4,y5⟩:=cl6 qY;have iV:=qH (km.out.below iw.out km.out.lt);clear qY;go_wp2_with (refine wpList_store_row rfl 29 (.tmp 23) (.tmp 136) rfl g23 #[.slice gD gM ik,.slice gz gB gv,.int .i64 g9,.int .i64 gR,.bool fB,.int .i64 il] rfl rfl 29 #[.slice aS nS cS,.slice aL nL cL,.int .i64 cw,.int .i64 cf,.bool f,.int .i64 lf] ?hg (six38 _ _ _ _ _ _) rfl (all6 _ _ _ _ _ _ _ _ _ _) ?_;(case hg=>exact iV.out);obtain⟨wT,hwT,fm,lq⟩:∃wT,wT=wF.setRow g23 #[.slice gD gM ik,.slice gz gB gv,.int .i64 g9,.int .i64 gR,.bool fB,.int .i64 il]∧Dv.Blk wT g23 29 #[.slice gD gM ik,.slice gz gB gv,.int .i64 g9,.int .i64 gR,.bool fB,.int .i64 il]∧Fr (fun q=>q=g23) wF wT:=⟨_,rfl,row_blk iV.out _,row_fr _ g23 _⟩;rw[←hwT];clear hwT;have ft:=qH fm;have de:=qH lq;clear fm lq)
       have xM:=qH ((kf.out.below iw.out).fr de.out (fun z hz h=>(eG.out z h).2 hz));have qF:=qH ((sd.out.down_).fr de.out (fun z hz=> .inr hz) (fun z hz=> .inl hz));have cM:=qH ((eF.out.trans (iw.out.mono eF.out.size)).trans (de.out.below (B:=w.heap.size) (fun z hz=>by rw[hz];exact j7.out) (Nat.le_trans eF.out.size iw.out.size)));have iQ:=qH ((cM.out.cell (p:=⟨ba,oa+q,none⟩) o8).trans td.out);have j2:=qH ((cM.out.cell (p:=⟨bb2,ob+q,none⟩) iI).trans xf.out);have lF:=qH (show ba<wT.heap.size∧¬D ba from⟨Nat.lt_of_lt_of_le o8 cM.out.size,fun h=>by have:=(eG.out ba h).1;omega⟩);have kj:=qH (show bb2<wT.heap.size∧¬D bb2 from⟨Nat.lt_of_lt_of_le iI cM.out.size,fun h=>by have:=(eG.out bb2 h).1;omega⟩);refine wp_region_held_drew (S:=fun X=>Fr D wT X) (by kernel_rfl) ((Fr.refl _ _).drew) (fun hHeld=>?_);refine tkC 0 ?_;refine tkC 1 ?_;refine tkC 2 ?_;refine tkC 3 ?_;refine tkA 4 (v:=?_) ?_ ?_;rotate_left
       ·intro W hSw;have hq:=(World.cell?_of_block (a:=⟨ba,oa+q,none⟩) (hSw.block ba lF.out.1 lF.out.2)).trans iQ.out;go_simp;try (with_reducible rfl)
       try simp only[Act.put,zA,zB,zC]
       refine tkC 5 ?_;refine tkC 6 ?_;refine tkC 9 ?_;refine tkC 10 ?_;refine tkC 11 ?_;refine tkA 12 (v:=?_) ?_ ?_;rotate_left
       ·intro W hSw;have hq:=(World.cell?_of_block (a:=⟨bb2,ob+q,none⟩) (hSw.block bb2 kj.out.1 kj.out.2)).trans j2.out;go_simp;try (with_reducible rfl)
       try simp only[Act.put,zA,zB,zC]
       refine tkC 13 ?_;refine tkC 14 ?_;refine tkC 15 ?_;refine tkC 16 ?_;refine tkC 17 ?_;refine tkA 18 (v:=?_) ?_ ?_;rotate_left
       ·intro W hSw;have hq:=(World.cell?_of_block (a:=⟨ba,oa+q,none⟩) (hSw.block ba lF.out.1 lF.out.2)).trans iQ.out;go_simp;try (with_reducible rfl)
       try simp only[Act.put,zA,zB,zC]
       refine tkC 19 ?_;refine tkC 20 ?_;refine tkC 21 ?_;refine tkA 22 (v:=?_) ?_ ?_;rotate_left
       ·intro W hSw;have hq:=(World.cell?_of_block (a:=⟨bb2,ob+q,none⟩) (hSw.block bb2 kj.out.1 kj.out.2)).trans j2.out;go_simp;try (with_reducible rfl)
       try simp only[Act.put,zA,zB,zC]
       refine tkC 23 ?_;refine rdA (rs:= [7]) ?_;refine arC (fun K hK=>?_);go_simp;refine(mU.out _).mono ?_;rintro e wA⟨rfl,iW⟩;have lN:Below wT.heap.size wT wA:=((Below.refl wT.heap.size wT).drew).trans iW;have wP:=qH (xM.out.below lN);have sf:=qH (Fr.of_below (D:=D) lN);refine hK.out _ _ ?_ (fun hHeld=>?_)
       ·exact sf.out
       clear hK K;try simp only[Act.put,zA,zB,zC]
       refine tkC 8 ?_;refine rdA (rs:= [24]) ?_;refine arC (fun K hK=>?_);go_simp;refine(ti.out _ wP.out).mono ?_;rintro e wZ⟨rfl,se,rA⟩;have yN:=qH rA;have lB:=qH (sf.out.trans se (fun z hz=> .inl hz));clear se rA;refine hK.out _ _ ?_ (fun hHeld=>?_)
       ·exact lB.out
       clear hK K;try simp only[Act.put,zA,zB,zC]
       refine wpAnyH_done (by kernel_rfl) ?_ _;go_wp2;go_roundw
       case rel=>exact⟨q+1,s2,_,by go_num,by omega,by omega,dX.out,ft.out.same (lB.out.block g23 ft.out.lt (fun h=>(eG.out g23 h).2 rfl)),⟨D,yN.out,eG.out,(qF.out.fr lB.out (fun z hz=> .inl hz) (fun z hz=> .inl hz))⟩,cM.out.trans (lB.out.below (B:=w.heap.size) (fun z hz=>(eG.out z hz).1) cM.out.size)⟩
       case measure=>simp[intOf];omega
      ·go_simp
       obtain⟨wC,kA⟩:∃X,X=wA.alloc (Obj.cells #[.slice none 0 0,.slice none 0 0,.int .i64 0,.int .i64 0,.bool false,.int .i64 0] 29):=⟨_,rfl⟩
       obtain⟨gC,dW⟩:∃g,g=wA.heap.size:=⟨_,rfl⟩
       rw[←kA,←dW];have gi:Below wr.heap.size wr wC:=by rw[kA];exact hHeld.alloc hHeld.size _
       have gW:=qH (show Dv.Blk wC gC 29 #[.slice none 0 0,.slice none 0 0,.int .i64 0,.int .i64 0,.bool false,.int .i64 0] by rw[kA,dW];exact heap_alloc_new _ _);have lc:=qH (show wr.heap.size≤gC by rw[dW];exact hHeld.size);clear kA dW;refine hK.out _ _ ?_ (fun hHeld=>?_)
       ·exact gi
       clear hK K;try simp only[Act.put,zA,zB,zC]
       refine rdA (rs:= [24]) ?_;refine arC (fun K hK=>?_);go_simp;refine(sN.out _ _ (xR.out.up_ (n:=gC) (m:=gC+1) hHeld lc.out) (fun z hz=>by rcases hz with hz|hz;exact Nat.lt_of_lt_of_le (D6.out z hz) hHeld.size;exact Nat.lt_of_lt_of_le hz.2 gW.out.lt)).mono ?_;rintro e wB⟨Ia,rfl,oW,jA⟩;obtain⟨gD,gM,ik,gz,gB,gv,g9,gR,fB,il,rfl⟩:=oW.sixn;have tT:=qH oW;have oT:=hHeld.trans (jA.mono hHeld.size);have gW:=qH (gW.out.below jA gW.out.lt);clear oW jA;refine hK.out _ _ ?_ (fun hHeld=>?_)
       ·exact oT
       clear hK K;try simp only[Act.put,zA,zB,zC]
       refine tkC 25 ?_;refine tkC 26 ?_;refine tkC 27 ?_;refine rdA (rs:= [29]) ?_;refine arC (fun K hK=>?_);have a9:=gW.out;obtain⟨y0,y1,y2,y3,y4,y5⟩:=cl6 a9;have df:=a9.frozen;have dl:=a9.lt;go_simp;try rw[six_def]
       refine hK.out _ _ ?_ (fun hHeld=>?_)
       ·exact(hHeld.trans ((six_fr wB gC (.slice gD gM ik) (.slice gz gB gv) (.int .i64 g9) (.int .i64 gR) (.bool fB) (.int .i64 il)).below (B:=wr.heap.size) (fun q hq=>by have:=lc.out;omega) hHeld.size))
       clear hK K;try simp only[Act.put,zA,zB,zC]
       refine tkC 30 ?_;refine wpAnyH_done (by kernel_rfl) ?_ _;have ri:=qH (six_here gW.out (.slice gD gM ik) (.slice gz gB gv) (.int .i64 g9) (.int .i64 gR) (.bool fB) (.int .i64 il));have sd:=qH (tT.out.st (six_fr wB gC (.slice gD gM ik) (.slice gz gB gv) (.int .i64 g9) (.int .i64 gR) (.bool fB) (.int .i64 il)) (fun q hq=>by omega));generalize (sixC wB gC (.slice gD gM ik) (.slice gz gB gv) (.int .i64 g9) (.int .i64 gR) (.bool fB) (.int .i64 il))=wF at ri sd hHeld⊢;have iw:=qH hHeld;clear hHeld;have qY:=ri.out;obtain⟨y0,y1,y2,y3,y4,y5⟩:=cl6 qY;have iV:=qH (km.out.below iw.out km.out.lt);clear qY;go_wp2_with (refine wpList_store_row rfl 29 (.tmp 23) (.tmp 136) rfl g23 #[.slice gD gM ik,.slice gz gB gv,.int .i64 g9,.int .i64 gR,.bool fB,.int .i64 il] rfl rfl 29 #[.slice aS nS cS,.slice aL nL cL,.int .i64 cw,.int .i64 cf,.bool f,.int .i64 lf] ?hg (six38 _ _ _ _ _ _) rfl (all6 _ _ _ _ _ _ _ _ _ _) ?_;(case hg=>exact iV.out);obtain⟨wT,hwT,fm,lq⟩:∃wT,wT=wF.setRow g23 #[.slice gD gM ik,.slice gz gB gv,.int .i64 g9,.int .i64 gR,.bool fB,.int .i64 il]∧Dv.Blk wT g23 29 #[.slice gD gM ik,.slice gz gB gv,.int .i64 g9,.int .i64 gR,.bool fB,.int .i64 il]∧Fr (fun q=>q=g23) wF wT:=⟨_,rfl,row_blk iV.out _,row_fr _ g23 _⟩;rw[←hwT];clear hwT;have ft:=qH fm;have de:=qH lq;clear fm lq)
       have xM:=qH ((kf.out.below iw.out).fr de.out (fun z hz h=>(eG.out z h).2 hz));have qF:=qH ((sd.out.down_).fr de.out (fun z hz=> .inr hz) (fun z hz=> .inl hz));have cM:=qH ((eF.out.trans (iw.out.mono eF.out.size)).trans (de.out.below (B:=w.heap.size) (fun z hz=>by rw[hz];exact j7.out) (Nat.le_trans eF.out.size iw.out.size)));have iQ:=qH ((cM.out.cell (p:=⟨ba,oa+q,none⟩) o8).trans td.out);have j2:=qH ((cM.out.cell (p:=⟨bb2,ob+q,none⟩) iI).trans xf.out);have lF:=qH (show ba<wT.heap.size∧¬D ba from⟨Nat.lt_of_lt_of_le o8 cM.out.size,fun h=>by have:=(eG.out ba h).1;omega⟩);have kj:=qH (show bb2<wT.heap.size∧¬D bb2 from⟨Nat.lt_of_lt_of_le iI cM.out.size,fun h=>by have:=(eG.out bb2 h).1;omega⟩);refine wp_region_held_drew (S:=fun X=>Fr D wT X) (by kernel_rfl) ((Fr.refl _ _).drew) (fun hHeld=>?_);refine tkC 0 ?_;refine tkC 1 ?_;refine tkC 2 ?_;refine tkC 3 ?_;refine tkA 4 (v:=?_) ?_ ?_;rotate_left
       ·intro W hSw;have hq:=(World.cell?_of_block (a:=⟨ba,oa+q,none⟩) (hSw.block ba lF.out.1 lF.out.2)).trans iQ.out;go_simp;try (with_reducible rfl)
       try simp only[Act.put,zA,zB,zC]
       refine tkC 5 ?_;refine tkC 6 ?_;refine tkC 9 ?_;refine tkC 10 ?_;refine tkC 11 ?_;refine tkA 12 (v:=?_) ?_ ?_;rotate_left
       ·intro W hSw;have hq:=(World.cell?_of_block (a:=⟨bb2,ob+q,none⟩) (hSw.block bb2 kj.out.1 kj.out.2)).trans j2.out;go_simp;try (with_reducible rfl)
       try simp only[Act.put,zA,zB,zC]
       refine tkC 13 ?_;refine tkC 14 ?_;refine tkC 15 ?_;refine tkC 16 ?_;refine tkC 17 ?_;refine tkA 18 (v:=?_) ?_ ?_;rotate_left
       ·intro W hSw;have hq:=(World.cell?_of_block (a:=⟨ba,oa+q,none⟩) (hSw.block ba lF.out.1 lF.out.2)).trans iQ.out;go_simp;try (with_reducible rfl)
       try simp only[Act.put,zA,zB,zC]
       refine tkC 19 ?_;refine tkC 20 ?_;refine tkC 21 ?_;refine tkA 22 (v:=?_) ?_ ?_;rotate_left
       ·intro W hSw;have hq:=(World.cell?_of_block (a:=⟨bb2,ob+q,none⟩) (hSw.block bb2 kj.out.1 kj.out.2)).trans j2.out;go_simp;try (with_reducible rfl)
       try simp only[Act.put,zA,zB,zC]
       refine tkC 23 ?_;refine rdA (rs:= [7]) ?_;refine arC (fun K hK=>?_);go_simp;refine(mU.out _).mono ?_;rintro e wA⟨rfl,iW⟩;have lN:Below wT.heap.size wT wA:=((Below.refl wT.heap.size wT).drew).trans iW;have wP:=qH (xM.out.below lN);have sf:=qH (Fr.of_below (D:=D) lN);refine hK.out _ _ ?_ (fun hHeld=>?_)
       ·exact sf.out
       clear hK K;try simp only[Act.put,zA,zB,zC]
       refine tkC 8 ?_;refine rdA (rs:= [24]) ?_;refine arC (fun K hK=>?_);go_simp;refine(ti.out _ wP.out).mono ?_;rintro e wZ⟨rfl,se,rA⟩;have yN:=qH rA;have lB:=qH (sf.out.trans se (fun z hz=> .inl hz));clear se rA;refine hK.out _ _ ?_ (fun hHeld=>?_)
       ·exact lB.out
       clear hK K;try simp only[Act.put,zA,zB,zC]
       refine wpAnyH_done (by kernel_rfl) ?_ _;go_wp2;go_roundw
       case rel=>exact⟨q+1,s2,_,by go_num,by omega,by omega,dX.out,ft.out.same (lB.out.block g23 ft.out.lt (fun h=>(eG.out g23 h).2 rfl)),⟨D,yN.out,eG.out,(qF.out.fr lB.out (fun z hz=> .inl hz) (fun z hz=> .inl hz))⟩,cM.out.trans (lB.out.below (B:=w.heap.size) (fun z hz=>(eG.out z hz).1) cM.out.size)⟩
       case measure=>simp[intOf];omega
     ·go_simp
      obtain⟨wC,kA⟩:∃X,X=(wr.alloc (Obj.cells #[.slice none 0 0,.slice none 0 0,.int .i64 0,.int .i64 0,.bool false,.int .i64 0] 29)).drew:=⟨_,rfl⟩
      obtain⟨gC,dW⟩:∃g,g=wr.heap.size:=⟨_,rfl⟩
      rw[←kA,←dW];have gi:Below wr.heap.size wr wC:=by rw[kA];exact((Below.refl wr.heap.size wr).alloc (Nat.le_refl _) _).drew
      have gW:=qH (show Dv.Blk wC gC 29 #[.slice none 0 0,.slice none 0 0,.int .i64 0,.int .i64 0,.bool false,.int .i64 0] by rw[kA,dW];exact heap_alloc_new _ _);have lc:=qH (show wr.heap.size≤gC by rw[dW];exact hHeld.size);clear kA dW;refine hK.out _ _ ?_ (fun hHeld=>?_)
      ·exact gi
      clear hK K;try simp only[Act.put,zA,zB,zC]
      refine rdA (rs:= [7]) ?_;refine arC (fun K hK=>?_);go_simp;refine(mU.out _).mono ?_;rintro e wA⟨rfl,iW⟩;have t6:=hHeld.trans (iW.mono hHeld.size);have gW:=qH (gW.out.below iW gW.out.lt);clear iW;refine hK.out _ _ ?_ (fun hHeld=>?_)
      ·exact t6
      clear hK K;try simp only[Act.put,zA,zB,zC]
      refine tkC 8 ?_;refine rdA (rs:= [24]) ?_;refine arC (fun K hK=>?_);go_simp;refine(sN.out _ _ (xR.out.up_ (n:=gC) (m:=gC+1) hHeld lc.out) (fun z hz=>by rcases hz with hz|hz;exact Nat.lt_of_lt_of_le (D6.out z hz) hHeld.size;exact Nat.lt_of_lt_of_le hz.2 gW.out.lt)).mono ?_;rintro e wB⟨Ia,rfl,oW,jA⟩;obtain⟨gD,gM,ik,gz,gB,gv,g9,gR,fB,il,rfl⟩:=oW.sixn;have tT:=qH oW;have oT:=hHeld.trans (jA.mono hHeld.size);have gW:=qH (gW.out.below jA gW.out.lt);clear oW jA;refine hK.out _ _ ?_ (fun hHeld=>?_)
      ·exact oT
      clear hK K;try simp only[Act.put,zA,zB,zC]
      refine tkC 25 ?_;refine tkC 26 ?_;refine tkC 27 ?_;refine rdA (rs:= [29]) ?_;refine arC (fun K hK=>?_);have a9:=gW.out;obtain⟨y0,y1,y2,y3,y4,y5⟩:=cl6 a9;have df:=a9.frozen;have dl:=a9.lt;go_simp;try rw[six_def]
      refine hK.out _ _ ?_ (fun hHeld=>?_)
      ·exact(hHeld.trans ((six_fr wB gC (.slice gD gM ik) (.slice gz gB gv) (.int .i64 g9) (.int .i64 gR) (.bool fB) (.int .i64 il)).below (B:=wr.heap.size) (fun q hq=>by have:=lc.out;omega) hHeld.size))
      clear hK K;try simp only[Act.put,zA,zB,zC]
      refine tkC 30 ?_;refine wpAnyH_done (by kernel_rfl) ?_ _;have ri:=qH (six_here gW.out (.slice gD gM ik) (.slice gz gB gv) (.int .i64 g9) (.int .i64 gR) (.bool fB) (.int .i64 il));have sd:=qH (tT.out.st (six_fr wB gC (.slice gD gM ik) (.slice gz gB gv) (.int .i64 g9) (.int .i64 gR) (.bool fB) (.int .i64 il)) (fun q hq=>by omega));generalize (sixC wB gC (.slice gD gM ik) (.slice gz gB gv) (.int .i64 g9) (.int .i64 gR) (.bool fB) (.int .i64 il))=wF at ri sd hHeld⊢;have iw:=qH hHeld;clear hHeld;have qY:=ri.out;obtain⟨y0,y1,y2,y3,y4,y5⟩:=cl6 qY;have iV:=qH (km.out.below iw.out km.out.lt);clear qY;go_wp2_with (refine wpList_store_row rfl 29 (.tmp 23) (.tmp 136) rfl g23 #[.slice gD gM ik,.slice gz gB gv,.int .i64 g9,.int .i64 gR,.bool fB,.int .i64 il] rfl rfl 29 #[.slice aS nS cS,.slice aL nL cL,.int .i64 cw,.int .i64 cf,.bool f,.int .i64 lf] ?hg (six38 _ _ _ _ _ _) rfl (all6 _ _ _ _ _ _ _ _ _ _) ?_;(case hg=>exact iV.out);obtain⟨wT,hwT,fm,lq⟩:∃wT,wT=wF.setRow g23 #[.slice gD gM ik,.slice gz gB gv,.int .i64 g9,.int .i64 gR,.bool fB,.int .i64 il]∧Dv.Blk wT g23 29 #[.slice gD gM ik,.slice gz gB gv,.int .i64 g9,.int .i64 gR,.bool fB,.int .i64 il]∧Fr (fun q=>q=g23) wF wT:=⟨_,rfl,row_blk iV.out _,row_fr _ g23 _⟩;rw[←hwT];clear hwT;have ft:=qH fm;have de:=qH lq;clear fm lq)
      have xM:=qH ((kf.out.below iw.out).fr de.out (fun z hz h=>(eG.out z h).2 hz));have qF:=qH ((sd.out.down_).fr de.out (fun z hz=> .inr hz) (fun z hz=> .inl hz));have cM:=qH ((eF.out.trans (iw.out.mono eF.out.size)).trans (de.out.below (B:=w.heap.size) (fun z hz=>by rw[hz];exact j7.out) (Nat.le_trans eF.out.size iw.out.size)));have iQ:=qH ((cM.out.cell (p:=⟨ba,oa+q,none⟩) o8).trans td.out);have j2:=qH ((cM.out.cell (p:=⟨bb2,ob+q,none⟩) iI).trans xf.out);have lF:=qH (show ba<wT.heap.size∧¬D ba from⟨Nat.lt_of_lt_of_le o8 cM.out.size,fun h=>by have:=(eG.out ba h).1;omega⟩);have kj:=qH (show bb2<wT.heap.size∧¬D bb2 from⟨Nat.lt_of_lt_of_le iI cM.out.size,fun h=>by have:=(eG.out bb2 h).1;omega⟩);refine wp_region_held_drew (S:=fun X=>Fr D wT X) (by kernel_rfl) ((Fr.refl _ _).drew) (fun hHeld=>?_);refine tkC 0 ?_;refine tkC 1 ?_;refine tkC 2 ?_;refine tkC 3 ?_;refine tkA 4 (v:=?_) ?_ ?_;rotate_left
      ·intro W hSw;have hq:=(World.cell?_of_block (a:=⟨ba,oa+q,none⟩) (hSw.block ba lF.out.1 lF.out.2)).trans iQ.out;go_simp;try (with_reducible rfl)
      try simp only[Act.put,zA,zB,zC]
      refine tkC 5 ?_;refine tkC 6 ?_;refine tkC 9 ?_;refine tkC 10 ?_;refine tkC 11 ?_;refine tkA 12 (v:=?_) ?_ ?_;rotate_left
      ·intro W hSw;have hq:=(World.cell?_of_block (a:=⟨bb2,ob+q,none⟩) (hSw.block bb2 kj.out.1 kj.out.2)).trans j2.out;go_simp;try (with_reducible rfl)
      try simp only[Act.put,zA,zB,zC]
      refine tkC 13 ?_;refine tkC 14 ?_;refine tkC 15 ?_;refine tkC 16 ?_;refine tkC 17 ?_;refine tkA 18 (v:=?_) ?_ ?_;rotate_left
      ·intro W hSw;have hq:=(World.cell?_of_block (a:=⟨ba,oa+q,none⟩) (hSw.block ba lF.out.1 lF.out.2)).trans iQ.out;go_simp;try (with_reducible rfl)
      try simp only[Act.put,zA,zB,zC]
      refine tkC 19 ?_;refine tkC 20 ?_;refine tkC 21 ?_;refine tkA 22 (v:=?_) ?_ ?_;rotate_left
      ·intro W hSw;have hq:=(World.cell?_of_block (a:=⟨bb2,ob+q,none⟩) (hSw.block bb2 kj.out.1 kj.out.2)).trans j2.out;go_simp;try (with_reducible rfl)
      try simp only[Act.put,zA,zB,zC]
      refine tkC 23 ?_;refine rdA (rs:= [7]) ?_;refine arC (fun K hK=>?_);go_simp;refine(mU.out _).mono ?_;rintro e wA⟨rfl,iW⟩;have lN:Below wT.heap.size wT wA:=((Below.refl wT.heap.size wT).drew).trans iW;have wP:=qH (xM.out.below lN);have sf:=qH (Fr.of_below (D:=D) lN);refine hK.out _ _ ?_ (fun hHeld=>?_)
      ·exact sf.out
      clear hK K;try simp only[Act.put,zA,zB,zC]
      refine tkC 8 ?_;refine rdA (rs:= [24]) ?_;refine arC (fun K hK=>?_);go_simp;refine(ti.out _ wP.out).mono ?_;rintro e wZ⟨rfl,se,rA⟩;have yN:=qH rA;have lB:=qH (sf.out.trans se (fun z hz=> .inl hz));clear se rA;refine hK.out _ _ ?_ (fun hHeld=>?_)
      ·exact lB.out
      clear hK K;try simp only[Act.put,zA,zB,zC]
      refine wpAnyH_done (by kernel_rfl) ?_ _;go_wp2;go_roundw
      case rel=>exact⟨q+1,s2,_,by go_num,by omega,by omega,dX.out,ft.out.same (lB.out.block g23 ft.out.lt (fun h=>(eG.out g23 h).2 rfl)),⟨D,yN.out,eG.out,(qF.out.fr lB.out (fun z hz=> .inl hz) (fun z hz=> .inl hz))⟩,cM.out.trans (lB.out.below (B:=w.heap.size) (fun z hz=>(eG.out z hz).1) cM.out.size)⟩
      case measure=>simp[intOf];omega
