/-
  Texts of the proof, put together.
-/
import Derived.Test.YtmbkaedhllfoeaaGreatKOFA
import Derived.Test.YtmbkaedhllfoeaaGreatKOWr
set_option maxRecDepth 100000
set_option maxHeartbeats 4000000
set_option linter.unusedVariables false
set_option linter.unusedVariables false
namespace Go.Proofs.YtmbkaedhllfoeaaGreat
open Go.RowKit Go.Rst Go.Dv Go.Crc Go.Str Go.Pg
theorem commit8_over{A:Nat→Prop}{w:World}{tv lv:Value}{x:Ss}{cs:List Chg}(h:TRs A w tv x)(hA:∀k,A k→k<w.heap.size)(hc:CRd A w lv cs)(hne:cs≠ [])(hl:cs.any longC=false)(hG:GoodX x)(hcb:(chgsB cs).length≤100000000)(hcs:cs.length≤100000)(hp2:(partsL (x.ep:Int) (x.fr:Int) cs).2=true)(hpj:(partsL (x.ep:Int) (x.fr:Int) cs).1.length≤jN x.n)(hft:fitB x.n (applyL x.rows cs)=true)(hroom:jN x.n<x.us+(partsL (x.ep:Int) (x.fr:Int) cs).1.length)(hov:x.ep=1073741824):
  Calls Tryz.prog 24 #[tv,lv] w (GivesT8 A w x 32):=by
 obtain⟨aS,nS,cS,aL,nL,cL,cw,cf,f,lf,aR,nR,cR,rfl,hT0,eX⟩:=h;obtain⟨W1,hW1⟩:∃W1,W1=((w.alloc (Obj.cells #[.slice aS nS cS,.slice aL nL cL,.int .i64 cw,.int .i64 cf,.bool f,.int .i64 lf,.slice aR nR cR,.int .i64 (x.ep:Int),.int .i64 (x.ar:Int),.int .i64 (x.us:Int),.int .i64 (x.fr:Int)] 42)).alloc (Obj.cells #[.slice none 0 0,.slice none 0 0,.int .i64 0,.int .i64 0,.bool false,.int .i64 0,.slice none 0 0,.int .i64 0,.int .i64 0,.int .i64 0,.int .i64 0] 42)):=⟨_,rfl⟩
 have ai:Below w.heap.size w W1:=by rw[hW1];exact below2 w _ _
 have hs1:W1.heap.size=w.heap.size+2:=by rw[hW1];simp
 have hb1:Dv.Blk W1 w.heap.size 42 #[.slice aS nS cS,.slice aL nL cL,.int .i64 cw,.int .i64 cf,.bool f,.int .i64 lf,.slice aR nR cR,.int .i64 (x.ep:Int),.int .i64 (x.ar:Int),.int .i64 (x.us:Int),.int .i64 (x.fr:Int)]:=by rw[hW1];exact heap_alloc2_old w _ _
 have hb2:Dv.Blk W1 (w.heap.size+1) 42 #[.slice none 0 0,.slice none 0 0,.int .i64 0,.int .i64 0,.bool false,.int .i64 0,.slice none 0 0,.int .i64 0,.int .i64 0,.int .i64 0,.int .i64 0]:=by rw[hW1];exact heap_alloc2_new w _ _
 have hT:TRd (Up A w.heap.size (w.heap.size+2)) W1 (.agg #[.slice aS nS cS,.slice aL nL cL,.int .i64 cw,.int .i64 cf,.bool f,.int .i64 lf]) x.d:=hT0.up_ ai (Nat.le_refl _);have dy:RRd (Up A w.heap.size (w.heap.size+2)) W1 (.slice aR nR cR) x.rows:=eX.up_ ai (Nat.le_refl _);have cy:∀k,Up A w.heap.size (w.heap.size+2) k→k<W1.heap.size:=up_lt hA (by omega) ai.size;have it:=qH (trs_mk hT dy);have hcr:∀X,Below W1.heap.size W1 X→RC X lv cs:=fun X hX=>rc_below (rc_below hc.rc ai (Nat.le_refl _)) hX (by have:=ai.size;omega)
 obtain⟨aC,cC,hlv,wI,hcm⟩:=rc_shape hc.rc;subst hlv;have aD:=qH hb1;have bo:=qH hb2;have aw:=qH ai;have dM:=qH hW1;have vd:=qH hcr;have ga:=qH cy;have iN:=fun(X:World) (hX:Below W1.heap.size W1 X)=>fun k (hk:Up A w.heap.size (w.heap.size+2) k)=>Nat.lt_of_lt_of_le (cy k hk) hX.size
 have jE:=qH iN;have jV:=hT.len_;have hn:=hG.n;have dt:x.n≤4096:=hG.ok.n;have lk:x.d.firm.length≤4096:=hG.ok.n;have hn':64≤x.d.firm.length:=hG.n;have fi:=hG.ep;have har:=hG.ar;have ag:=hG.us;have ax:=hG.fr;have eC:=(rows_few_ hG).2;have uN:x.us≤1024:=by have:=jN_le x.n;omega
 obtain⟨J,hJ⟩:∃J,J=jN nS:=⟨_,rfl⟩
 obtain⟨M,hM⟩:∃M,M=aN nS:=⟨_,rfl⟩
 have D8:J≤1024:=by rw[hJ,jV];have:=jN_le x.d.firm.length;omega
 have ak:=fun X=>layout8_any (nS:Int) (by omega) (by omega) X
 rw[layJ_nat,layA_nat,←hM,←hJ] at ak;have aZ:=qH ak;have HL:=qH (long8_any _ cs W1 (hcr _ (Below.refl _ _)));rw[hl] at HL;obtain⟨L2,hL2⟩:∃L2,L2=applyL x.rows cs:=⟨_,rfl⟩
 have hap:=fun(X:World) (hX:Below W1.heap.size W1 X)=>refApplyD_any _ _ _ _ X (iN X hX) (dy.below hX) (show CRd (Up A w.heap.size (w.heap.size+2)) X (.slice aC cs.length cC) cs from(CVP.below (P':=RAd (Up A w.heap.size (w.heap.size+2)) W1) hc ai (fun _ _ h=>h.fr (D:=fun _=>False) (Fr.of_below ai) (fun _ h=>h.elim) (up_new (Nat.le_refl _)))).below' hX) (by omega)
 rw[←hL2] at hap;have eB:=qH hap;have oV:=qH hL2;have HJ:=qH hJ;have tK:=qH hM;have lC:=qH jV;have uc:=qH hG;have ra:=qH hT;have hpt:=fun(X:World) (hX:Below W1.heap.size W1 X)=>refParts_any (x.ep:Int) (x.fr:Int) _ cs X (hcr X hX) hcb (by omega)
 obtain⟨⟨P1,P2⟩,bC⟩:∃PL,PL=partsL (x.ep:Int) (x.fr:Int) cs:=⟨_,rfl⟩
 rw[←bC] at hpt;have ki:=qH hpt;have cW:=qH bC;have EE:P1.length≤200:=by have:=parts_len (x.ep:Int) (x.fr:Int) cs;rw[←bC] at this;exact this
 have hcw:∀X,Below w.heap.size w X→RC X (.slice aC cs.length cC) cs:=fun X hX=>rc_below hc.rc hX (Nat.le_refl _)
 have Bm:=qH hcw;clear hcw;have hcl:(0:Int)<(cs.length:Int):=by have:=List.length_pos_iff.2 hne;omega
 have iF:((cs.length:Int)==0)=false:=by rw[beq_eq_false_iff_ne];omega
 clear hpt bC hap hL2 hJ hM ak hG jV hn dt lk hn' ag eC;clear hA hc ai hs1 hb1 hb2 cy hW1 hT0 eX hcr iN hT dy;obtain⟨g2,hg2⟩:∃g2,g2=w.heap.size:=⟨_,rfl⟩
 obtain⟨g4,hg4⟩:∃g4,g4=w.heap.size+1:=⟨_,rfl⟩
 rw[←hg4] at bo;rw[←hg2] at aD it ga jE eB ra;have b7:=qH hg4;have HG2:=qH hg2;clear hg4 hg2;go_enter Tryz.func24,Tryz.ntmps24;have GV:(J:Int)<(x.us:Int)+(P1.length:Int):=by
  have e:=cW.out;have h2:J<x.us+P1.length:=by rw[HJ.out,lC.out];rw[←e] at hroom;exact hroom
  omega
 have pU:=qH hov;clear hroom hov;have f6:P2=true:=by have e:=cW.out;rw[←e] at hp2;exact hp2
 subst f6;have Hz:(P1.length:Int)≤(J:Int):=by
  have e:=cW.out;have h2:P1.length≤J:=by rw[HJ.out,lC.out];rw[←e] at hpj;exact hpj
  omega
 obtain⟨ps,hbl,oE⟩:∃ps,buildL L2=some ps∧ps.length≤M:=by
  rw[oV.out,tK.out,lC.out];unfold fitB at hft;split at hft
  ·rename_i ps e
   exact⟨ps,e,of_decide_eq_true hft⟩
  ·cases hft
 have hle:(ps.length:Int)≤(M:Int):=by omega
 clear hp2 hpj hft oE;go_wp2_with fail
 rw[←dM.out,←b7.out,←HG2.out];refine HL.out.mono ?_;rintro e w1⟨rfl,hb1⟩;have al:=qH hb1;have ao:=aD.out.below hb1 aD.out.lt;have zl:=ao.lt;obtain⟨z0,z1,z2,z3,z4,z5,z6,z7,z8,z9,bN⟩:=cl11 ao;clear ao hb1;go_wp2_with fail
 refine(eB.out _ al.out).mono ?_;rintro e w2⟨v2,rfl,hr2,hb2⟩;obtain⟨A2,c2,rfl,hsh⟩:=RVP.shape hr2;have dq:=qH hr2;have ae:=qH (al.out.trans (hb2.mono al.out.size));have dd:=qH (refBuild_any _ _ w2 hr2.rr);have ao:=aD.out.below ae.out aD.out.lt;have zl:=ao.lt;obtain⟨z0,z1,z2,z3,z4,z5,z6,z7,z8,z9,bN⟩:=cl11 ao;clear ao hb2 hr2 hsh;go_wp2_with (go_at_call 30;refine(aZ.out _).mono ?_;rintro e wq ⟨rfl,rfl⟩)
 rw[hbl] at dd;refine dd.out.mono ?_;rintro e w3⟨pv,rfl,hop,hb3⟩;have aj:=qH (ae.out.trans (hb3.mono ae.out.size));have bM:=qH (dq.out.below hb3);have ao:=aD.out.below aj.out aD.out.lt;have zl:=ao.lt;obtain⟨z0,z1,z2,z3,z4,z5,z6,z7,z8,z9,bN⟩:=cl11 ao;clear ao hb3;obtain⟨Ap,cp,rfl,bI,bO⟩:=hop.shape;simp only[Option.isSome,Option.getD_some];clear bI bO hop;go_wp2_with fail
 refine(ki.out _ aj.out).mono ?_;rintro e w4⟨sv,rfl,hop,hb4⟩;obtain⟨As,vV,rfl,bI,bO⟩:=hop.shape;have ah:=qH (aj.out.trans (hb4.mono aj.out.size));have i9:=qH (bM.out.below hb4);clear bI bO hop hb4;have ao:=aD.out.below ah.out aD.out.lt;have zl:=ao.lt;obtain⟨z0,z1,z2,z3,z4,z5,z6,z7,z8,z9,bN⟩:=cl11 ao;clear ao;have yz:=ck8_over (it.out.below ah.out) (jE.out _ ah.out) pU.out;have FK:=qH yz;clear yz;go_wp2_with fail
 refine FK.out.mono ?_;rintro e w5⟨vq,rfl,fW,aq⟩;obtain⟨fJ,fF,fD,fy,fM,fG,fA,fj,f5,lf5,oZ,o7,pf,rfl,_,_⟩:=id fW;have ay:=qH (ah.out.trans (aq.mono ah.out.size));have ao:=aD.out.below ay.out aD.out.lt;have zl:=ao.lt;obtain⟨z0,z1,z2,z3,z4,z5,z6,z7,z8,z9,bN⟩:=cl11 ao;clear ao fW aq;obtain⟨Q,hQ⟩:∃Q,Q=Obj.cells #[.slice fJ fF fD,.slice fy fM fG,.int .i64 fA,.int .i64 fj,.bool f5,.int .i64 lf5,.slice oZ o7 pf,.int .i64 (x.ep:Int),.int .i64 (x.ar:Int),.int .i64 (x.us:Int),.int .i64 (x.fr:Int)] 42:=⟨_,rfl⟩
 have cY:=qH ((bo.out.below ay.out bo.out.lt).alloc Q);have eF:=qH (show Below W1.heap.size W1 (w5.alloc Q) from ay.out.alloc ay.out.size Q);have HQ:=qH hQ;clear hQ;go_wp2_with (first|(rw[←HQ.out];(refine wpList_store_row rfl 42 (.tmp 4) (.tmp 85) rfl g4 #[.slice aS nS cS,.slice aL nL cL,.int .i64 cw,.int .i64 cf,.bool f,.int .i64 lf,.slice aR nR cR,.int .i64 (x.ep:Int),.int .i64 (x.ar:Int),.int .i64 (x.us:Int),.int .i64 (x.fr:Int)] rfl rfl 42 #[.slice none 0 0,.slice none 0 0,.int .i64 0,.int .i64 0,.bool false,.int .i64 0,.slice none 0 0,.int .i64 0,.int .i64 0,.int .i64 0,.int .i64 0] cY.out (elv42 _ _ _ _ _ _ _ _ _ _ _) rfl (all11 _ _ _ _ _ _ _ _ _ _ _ _ _ _ _ _ _) ?_))|(refine bodyPost_ret (v:= .tuple #[.agg #[.slice aS nS cS,.slice aL nL cL,.int .i64 cw,.int .i64 cf,.bool f,.int .i64 lf,.slice aR nR cR,.int .i64 (x.ep:Int),.int .i64 (x.ar:Int),.int .i64 (x.us:Int),.int .i64 (x.fr:Int)],.int .i64 32]) (leaveC8 rfl rfl (row_blk cY.out _)) rfl ⟨_,rfl,((it.out.below eF.out).st (row_fr (w5.alloc Q) g4 _) (fun q hq=>by have:=b7.out;have:=HG2.out;omega)).down_,aw.out.trans (((Fr.of_below (D:=fun q=>q=g4) eF.out).trans (row_fr (w5.alloc Q) g4 _) (fun q hq=> .inl hq)).below (fun q hq=>by have:=b7.out;omega) aw.out.size)⟩))
theorem commit8_put{A:Nat→Prop}{w:World}{tv lv:Value}{x:Ss}{cs:List Chg}(h:TRs A w tv x)(hA:∀k,A k→k<w.heap.size)(hc:CRd A w lv cs)(hne:cs≠ [])(hl:cs.any longC=false)(hG:GoodX x)(hcb:(chgsB cs).length≤100000000)(hcs:cs.length≤100000)(hp2:(partsL (x.ep:Int) (x.fr:Int) cs).2=true)(hpj:(partsL (x.ep:Int) (x.fr:Int) cs).1.length≤jN x.n)(hft:fitB x.n (applyL x.rows cs)=true)(hroom:x.us+(partsL (x.ep:Int) (x.fr:Int) cs).1.length≤jN x.n):
  Calls Tryz.prog 24 #[tv,lv] w (GivesT8 A w (putS x cs) 0):=by
 obtain⟨aS,nS,cS,aL,nL,cL,cw,cf,f,lf,aR,nR,cR,rfl,hT0,eX⟩:=h;obtain⟨W1,hW1⟩:∃W1,W1=((w.alloc (Obj.cells #[.slice aS nS cS,.slice aL nL cL,.int .i64 cw,.int .i64 cf,.bool f,.int .i64 lf,.slice aR nR cR,.int .i64 (x.ep:Int),.int .i64 (x.ar:Int),.int .i64 (x.us:Int),.int .i64 (x.fr:Int)] 42)).alloc (Obj.cells #[.slice none 0 0,.slice none 0 0,.int .i64 0,.int .i64 0,.bool false,.int .i64 0,.slice none 0 0,.int .i64 0,.int .i64 0,.int .i64 0,.int .i64 0] 42)):=⟨_,rfl⟩
 have ai:Below w.heap.size w W1:=by rw[hW1];exact below2 w _ _
 have hs1:W1.heap.size=w.heap.size+2:=by rw[hW1];simp
 have hb1:Dv.Blk W1 w.heap.size 42 #[.slice aS nS cS,.slice aL nL cL,.int .i64 cw,.int .i64 cf,.bool f,.int .i64 lf,.slice aR nR cR,.int .i64 (x.ep:Int),.int .i64 (x.ar:Int),.int .i64 (x.us:Int),.int .i64 (x.fr:Int)]:=by rw[hW1];exact heap_alloc2_old w _ _
 have hb2:Dv.Blk W1 (w.heap.size+1) 42 #[.slice none 0 0,.slice none 0 0,.int .i64 0,.int .i64 0,.bool false,.int .i64 0,.slice none 0 0,.int .i64 0,.int .i64 0,.int .i64 0,.int .i64 0]:=by rw[hW1];exact heap_alloc2_new w _ _
 have hT:TRd (Up A w.heap.size (w.heap.size+2)) W1 (.agg #[.slice aS nS cS,.slice aL nL cL,.int .i64 cw,.int .i64 cf,.bool f,.int .i64 lf]) x.d:=hT0.up_ ai (Nat.le_refl _);have dy:RRd (Up A w.heap.size (w.heap.size+2)) W1 (.slice aR nR cR) x.rows:=eX.up_ ai (Nat.le_refl _);have cy:∀k,Up A w.heap.size (w.heap.size+2) k→k<W1.heap.size:=up_lt hA (by omega) ai.size;have it:=qH (trs_mk hT dy);have hcr:∀X,Below W1.heap.size W1 X→RC X lv cs:=fun X hX=>rc_below (rc_below hc.rc ai (Nat.le_refl _)) hX (by have:=ai.size;omega)
 obtain⟨aC,cC,hlv,wI,hcm⟩:=rc_shape hc.rc;subst hlv;have aD:=qH hb1;have bo:=qH hb2;have aw:=qH ai;have dM:=qH hW1;have vd:=qH hcr;have ga:=qH cy;have iN:=fun(X:World) (hX:Below W1.heap.size W1 X)=>fun k (hk:Up A w.heap.size (w.heap.size+2) k)=>Nat.lt_of_lt_of_le (cy k hk) hX.size
 have jE:=qH iN;have jV:=hT.len_;have hn:=hG.n;have dt:x.n≤4096:=hG.ok.n;have lk:x.d.firm.length≤4096:=hG.ok.n;have hn':64≤x.d.firm.length:=hG.n;have fi:=hG.ep;have har:=hG.ar;have ag:=hG.us;have ax:=hG.fr;have eC:=(rows_few_ hG).2;have uN:x.us≤1024:=by have:=jN_le x.n;omega
 obtain⟨J,hJ⟩:∃J,J=jN nS:=⟨_,rfl⟩
 obtain⟨M,hM⟩:∃M,M=aN nS:=⟨_,rfl⟩
 have D8:J≤1024:=by rw[hJ,jV];have:=jN_le x.d.firm.length;omega
 have ak:=fun X=>layout8_any (nS:Int) (by omega) (by omega) X
 rw[layJ_nat,layA_nat,←hM,←hJ] at ak;have aZ:=qH ak;have HL:=qH (long8_any _ cs W1 (hcr _ (Below.refl _ _)));rw[hl] at HL;obtain⟨L2,hL2⟩:∃L2,L2=applyL x.rows cs:=⟨_,rfl⟩
 have hap:=fun(X:World) (hX:Below W1.heap.size W1 X)=>refApplyD_any _ _ _ _ X (iN X hX) (dy.below hX) (show CRd (Up A w.heap.size (w.heap.size+2)) X (.slice aC cs.length cC) cs from(CVP.below (P':=RAd (Up A w.heap.size (w.heap.size+2)) W1) hc ai (fun _ _ h=>h.fr (D:=fun _=>False) (Fr.of_below ai) (fun _ h=>h.elim) (up_new (Nat.le_refl _)))).below' hX) (by omega)
 rw[←hL2] at hap;have eB:=qH hap;have oV:=qH hL2;have HJ:=qH hJ;have tK:=qH hM;have lC:=qH jV;have uc:=qH hG;have ra:=qH hT;have hpt:=fun(X:World) (hX:Below W1.heap.size W1 X)=>refParts_any (x.ep:Int) (x.fr:Int) _ cs X (hcr X hX) hcb (by omega)
 obtain⟨⟨P1,P2⟩,bC⟩:∃PL,PL=partsL (x.ep:Int) (x.fr:Int) cs:=⟨_,rfl⟩
 rw[←bC] at hpt;have ki:=qH hpt;have cW:=qH bC;have EE:P1.length≤200:=by have:=parts_len (x.ep:Int) (x.fr:Int) cs;rw[←bC] at this;exact this
 have hcw:∀X,Below w.heap.size w X→RC X (.slice aC cs.length cC) cs:=fun X hX=>rc_below hc.rc hX (Nat.le_refl _)
 have Bm:=qH hcw;clear hcw;have hcl:(0:Int)<(cs.length:Int):=by have:=List.length_pos_iff.2 hne;omega
 have iF:((cs.length:Int)==0)=false:=by rw[beq_eq_false_iff_ne];omega
 clear hpt bC hap hL2 hJ hM ak hG jV hn dt lk hn' ag eC;clear hA hc ai hs1 hb1 hb2 cy hW1 hT0 eX hcr iN hT dy;obtain⟨g2,hg2⟩:∃g2,g2=w.heap.size:=⟨_,rfl⟩
 obtain⟨g4,hg4⟩:∃g4,g4=w.heap.size+1:=⟨_,rfl⟩
 rw[←hg4] at bo;rw[←hg2] at aD it ga jE eB ra;have b7:=qH hg4;have HG2:=qH hg2;clear hg4 hg2;go_enter Tryz.func24,Tryz.ntmps24;have GV:(x.us:Int)+(P1.length:Int)≤(J:Int):=by
  have e:=cW.out;have h2:x.us+P1.length≤J:=by rw[HJ.out,lC.out];rw[←e] at hroom;exact hroom
  omega
 clear hroom;have f6:P2=true:=by have e:=cW.out;rw[←e] at hp2;exact hp2
 subst f6;have Hz:(P1.length:Int)≤(J:Int):=by
  have e:=cW.out;have h2:P1.length≤J:=by rw[HJ.out,lC.out];rw[←e] at hpj;exact hpj
  omega
 obtain⟨ps,hbl,oE⟩:∃ps,buildL L2=some ps∧ps.length≤M:=by
  rw[oV.out,tK.out,lC.out];unfold fitB at hft;split at hft
  ·rename_i ps e
   exact⟨ps,e,of_decide_eq_true hft⟩
  ·cases hft
 have hle:(ps.length:Int)≤(M:Int):=by omega
 clear hp2 hpj hft oE;go_wp2_with fail
 rw[←dM.out,←b7.out,←HG2.out];refine HL.out.mono ?_;rintro e w1⟨rfl,hb1⟩;have al:=qH hb1;have ao:=aD.out.below hb1 aD.out.lt;have zl:=ao.lt;obtain⟨z0,z1,z2,z3,z4,z5,z6,z7,z8,z9,bN⟩:=cl11 ao;clear ao hb1;go_wp2_with fail
 refine(eB.out _ al.out).mono ?_;rintro e w2⟨v2,rfl,hr2,hb2⟩;obtain⟨A2,c2,rfl,hsh⟩:=RVP.shape hr2;have dq:=qH hr2;have ae:=qH (al.out.trans (hb2.mono al.out.size));have dd:=qH (refBuild_any _ _ w2 hr2.rr);have ao:=aD.out.below ae.out aD.out.lt;have zl:=ao.lt;obtain⟨z0,z1,z2,z3,z4,z5,z6,z7,z8,z9,bN⟩:=cl11 ao;clear ao hb2 hr2 hsh;go_wp2_with (go_at_call 30;refine(aZ.out _).mono ?_;rintro e wq ⟨rfl,rfl⟩)
 rw[hbl] at dd;refine dd.out.mono ?_;rintro e w3⟨pv,rfl,hop,hb3⟩;have aj:=qH (ae.out.trans (hb3.mono ae.out.size));have bM:=qH (dq.out.below hb3);have ao:=aD.out.below aj.out aD.out.lt;have zl:=ao.lt;obtain⟨z0,z1,z2,z3,z4,z5,z6,z7,z8,z9,bN⟩:=cl11 ao;clear ao hb3;obtain⟨Ap,cp,rfl,bI,bO⟩:=hop.shape;simp only[Option.isSome,Option.getD_some];clear bI bO hop;go_wp2_with fail
 refine(ki.out _ aj.out).mono ?_;rintro e w4⟨sv,rfl,hop,hb4⟩;obtain⟨As,vV,rfl,bI,bO⟩:=hop.shape;have ah:=qH (aj.out.trans (hb4.mono aj.out.size));have i9:=qH (bM.out.below hb4);clear bI bO hop hb4;have ao:=aD.out.below ah.out aD.out.lt;have zl:=ao.lt;obtain⟨z0,z1,z2,z3,z4,z5,z6,z7,z8,z9,bN⟩:=cl11 ao;clear ao;have cM:=qH (aw.out.trans (ah.out.mono aw.out.size));have ft:=qH (aD.out.below ah.out aD.out.lt);have pK:=qH (bo.out.below ah.out bo.out.lt);have qF:=qH (ra.out.below ah.out);have Ef:=qH (jE.out _ ah.out);have gc:=i9;have Dl:=qH (show x.rows=x.rows from rfl);have rP:=qH (show OK x.d∧x.d.loose.length≤8000 from⟨uc.out.ok,uc.out.lo⟩);have kW:=refParts_any (x.ep:Int) (x.fr:Int) _ cs w4 (Bm.out _ cM.out) hcb (by omega);obtain⟨⟨B,B2⟩,hB⟩:∃PL,PL=partsL (x.ep:Int) (x.fr:Int) cs:=⟨_,rfl⟩
 rw[←hB] at kW;have Gg:B.length≤200:=by have:=parts_len (x.ep:Int) (x.fr:Int) cs;rw[←hB] at this;exact this
 have sW:=qH kW;have es:=qH hB;have ao:=ft.out;have zl:=ao.lt;obtain⟨z0,z1,z2,z3,z4,z5,z6,z7,z8,z9,bN⟩:=cl11 ao;clear ao kW hB;go_wp2_with fail
 refine sW.out.mono ?_;rintro e w6⟨bv,rfl,hop,au⟩;obtain⟨Ab,cb,rfl,bI,bO⟩:=hop.shape;have ze:=qH (OP.rp hop);have aG:=qH au;have ao:=ft.out.below au ft.out.lt;have zl:=ao.lt;obtain⟨z0,z1,z2,z3,z4,z5,z6,z7,z8,z9,bN⟩:=cl11 ao;obtain⟨W7,oq⟩:∃W7,W7=w6.alloc (Obj.cells #[.slice aS nS cS,.slice aL nL cL,.int .i64 cw,.int .i64 cf,.bool f,.int .i64 lf] 29):=⟨_,rfl⟩
 have bR:Below w6.heap.size w6 W7:=by rw[oq];exact(Below.refl _ _).alloc (Nat.le_refl _) _
 have gr:Below w4.heap.size w4 W7:=au.trans (bR.mono au.size);obtain⟨g17,dB⟩:∃g17,g17=w6.heap.size:=⟨_,rfl⟩
 have po:W7.heap.size=g17+1:=by rw[oq,dB];simp
 have jU:Dv.Blk W7 g17 29 #[.slice aS nS cS,.slice aL nL cL,.int .i64 cw,.int .i64 cf,.bool f,.int .i64 lf]:=by rw[oq,dB];exact heap_alloc_new w6 _
 have htd:=(qF.out.below au).up_ (n:=g17) (m:=g17+1) bR (by omega);have jz:=qH (show BoxT (Up (Up A g2 (g2+2)) g17 (g17+1)) W7 g17 x.d from⟨_,_,_,_,_,_,_,_,_,_,jU,htd⟩);have Dq:=qH (show ∀k,Up (Up A g2 (g2+2)) g17 (g17+1) k→k<W7.heap.size from fun k hk=>by
  rcases hk with hk|hk
  ·exact Nat.lt_of_lt_of_le (Ef.out k hk) gr.size
  ·omega)
 have Fd:=qH oq;have bJ:=qH bR;have tt:=qH gr;have jt:=qH dB;have vx:=qH po;have om:=qH (ft.out.below gr ft.out.lt);have gp:g2<g17:=by have:=(ft.out.below au ft.out.lt).lt;omega
 have kh:g4<g17:=by have:=(pK.out.below au pK.out.lt).lt;omega
 have kU:=qH (pK.out.below gr pK.out.lt);have yd:=qH ((gc.out.below au).up_ (n:=g17) (m:=g17+1) bR (by omega));obtain⟨L,hL⟩:∃L,L=B.length:=⟨_,rfl⟩
 rw[←hL] at Gg;have uk:=qH hL;obtain⟨SS,gG⟩:∃SS:Nat→Sim,SS=fun m=>writeL x.d (2+x.us) B m:=⟨_,rfl⟩
 have Am:=qH (show SS 0=x.d by rw[gG];rfl);have jo:=qH (show ∀m,SS (m+1)=(SS m).write ((2+x.us+m:Nat):Int) (B.getD m []) from fun m=>by rw[gG];rfl);have pi:=qH (show ∀m,m≤300→OK (SS m)∧(SS m).loose.length<60000 from fun m hm=>by
  rw[gG];exact⟨ok_writeL8 rP.out.1 _ _ m (by have:=rP.out.2;omega),(by have:=writeL_loose x.d (2+x.us) B m;have:=rP.out.2;show(writeL x.d (2+x.us) B m).loose.length<60000;omega)⟩)
 have pH:=qH (show putS x cs={d:=(SS L).flush,rows:=applyL x.rows cs,ep:=x.ep,ar:=x.ar,us:=x.us+L,fr:=x.fr+1} by unfold putS;rw[←es.out,gG,hL]);rw[←Am.out] at jz;rw[←hL];clear hop au bR gr po jU htd oq bI bO ao gG hL;go_wp2_with fail
 rw[←Fd.out,←dB];clear dB
 go_loopw [18] (fun i wr=>∃k:Nat,k≤L∧i= .int .i64 k∧BoxT (Up (Up A g2 (g2+2)) g17 (g17+1)) wr g17 (SS k)∧Fr (fun j=>j=g17) W7 wr) (fun i _=>L-(intOf i).toNat)
 case atStart=>exact⟨0,Nat.zero_le _,rfl,jz.out,Fr.refl _ _⟩
 case round=>
  obtain⟨k,hk,rfl,bz,ax⟩:=hrel;obtain⟨aS,nS,cS,aL,nL,cL,cw,cf,f,lf,hblk,htr⟩:=bz;have bE:=pi.out k (by omega);have kX:=fun q hq=>Nat.lt_of_lt_of_le (Dq.out q hq) ax.size
  have hk2:=om.out.same (ax.block g2 om.out.lt (by omega));have oe:=qH hk2;have dw:=qH ax;by_cases hlt:k<L
  ·have xG:k<B.length:=by rw[←uk.out];exact hlt
   obtain⟨bP,oP,u,rfl,mp,hu,bi⟩:=rp_at ze.out xG;have zh:bP<g17:=by rw[jt.out];exact mp
   have sJ:wr.cell? ⟨bP,oP+k,none⟩=some u:=(World.cell?_of_block (a:=⟨bP,oP+k,none⟩) (ax.block bP (by have:=vx.out;omega) (by omega))).trans ((bJ.out.cell (p:=⟨bP,oP+k,none⟩) mp).trans hu);have kO:RB wr u B[k]:=RB.fr (bi.below bJ.out) ax (fun hl q hq hd=>by have:=RB.lt_ bi hl hq;have:=jt.out;omega);have hgd:B.getD k []=B[k]:=by rw[List.getD_eq_getElem?_getD,List.getElem?_eq_getElem xG];rfl
   have hnx:=jo.out k;rw[hgd] at hnx;have hwr:=fun(X:World) (hX:Below wr.heap.size wr X)=>wr8_any (((2+x.us+k:Nat):Int)) B[k] (htr.below hX) bE.1 (fun q hq=>Nat.lt_of_lt_of_le (kX q hq) hX.size) (by omega) (kO.below hX)
   rw[←hnx,show((2+x.us+k:Nat):Int)=2+(x.us:Int)+(k:Int) by omega] at hwr;obtain⟨s2,hs2⟩:∃s2,s2=SS (k+1):=⟨_,rfl⟩
   rw[←hs2] at hwr;obtain⟨Au,cu,ag⟩:=rb_shape kO;obtain⟨nu,nM⟩:∃nu,nu=B[k].length:=⟨_,rfl⟩
   rw[←nM] at ag;subst ag;have i7:=qH hwr;have dX:=qH hs2;have az:=qH hblk;have HU:=qH sJ;have fO:=qH (show bP≠g17 by omega);have np:bP<wr.heap.size:=World.block_lt_of_cell? wr _ sJ;have hx1:IntKind.i64.wrap (2+(x.us:Int))=2+(x.us:Int):=by rw[IntKind.wrap_i64];omega
   have hx2:IntKind.i64.wrap (2+(x.us:Int)+(k:Int))=2+(x.us:Int)+(k:Int):=by rw[IntKind.wrap_i64];omega
   obtain⟨y0,y1,y2,y3,y4,y5⟩:=cl6 hblk;have q1:(0:Int)≤(k:Int):=by omega
   have q2:(k:Int)<(L:Int):=by omega
   clear hblk htr bE kX hk2 ax mp hu bi sJ kO hgd hnx hwr hs2 nM;go_wp2_with fail
   refine wp_region_held_drew (S:=fun X=>Fr (fun q=>q=g17) wr X) (by kernel_rfl) ((Fr.refl _ _).drew) (fun hHeld=>?_);refine tkC 1 ?_;refine tkA 2 (v:=?_) ?_ ?_;rotate_left
   ·intro W hSw;have hq:=(World.cell?_of_block (a:=⟨g2,9,none⟩) (hSw.block g2 oe.out.lt (by omega))).trans (oe.out.cell 9);simp at hq;go_simp;try (with_reducible rfl)
   try simp only[Act.put,zA,zB,zC]
   refine tkC 3 ?_;refine tkC 4 ?_;refine tkC 5 ?_;refine tkC 6 ?_;refine tkC 7 ?_;refine tkC 8 ?_;refine tkA 9 (v:=?_) ?_ ?_;rotate_left
   ·intro W hSw;have hq:=(World.cell?_of_block (a:=⟨bP,oP+k,none⟩) (hSw.block bP np fO.out)).trans HU.out;go_simp;try (with_reducible rfl)
   try simp only[Act.put,zA,zB,zC]
   refine rdA (rs:= [0]) ?_;refine arC (fun K hK=>?_);go_simp;refine hK.out _ _ ?_ (fun _=>?_)
   ·exact hHeld
   clear hK K;try simp only[Act.put,zA,zB,zC]
   refine rdA (rs:= [10]) ?_;refine arC (fun K hK=>?_);go_simp;refine(i7.out _ ((Below.refl wr.heap.size wr).drew)).mono ?_;rintro e w9⟨BG,rfl,js,fx⟩;obtain⟨gJ,gE,gl,gx,gT,gm,io,gw,f9,lf9,rfl⟩:=js.sixn;have qr:=qH js;have t5:Below wr.heap.size wr w9:=((Below.refl wr.heap.size wr).drew).trans fx;have fP:=qH t5;clear js fx;refine hK.out _ _ ?_ (fun hHeld=>?_)
   ·exact(Fr.of_below fP.out)
   clear hK K;try simp only[Act.put,zA,zB,zC]
   refine rdA (rs:= [11]) ?_;refine arC (fun K hK=>?_);have a9:=az.out.below fP.out az.out.lt;clear y0 y1 y2 y3 y4 y5;obtain⟨y0,y1,y2,y3,y4,y5⟩:=cl6 a9;have df:=a9.frozen;have dl:=a9.lt;go_simp;try rw[six_def]
   refine hK.out _ _ ?_ (fun hHeld=>?_)
   ·exact((Fr.of_below fP.out).trans (six_fr w9 g17 (.slice gJ gE gl) (.slice gx gT gm) (.int .i64 io) (.int .i64 gw) (.bool f9) (.int .i64 lf9)) (fun q hq=> .inl hq))
   clear hK K;try simp only[Act.put,zA,zB,zC]
   refine wpAnyH_done (by kernel_rfl) ?_ _;have kx:=qH (BoxT.store (az.out.below fP.out az.out.lt) qr.out (.inr ⟨Nat.le_refl _,by omega⟩));rw[dX.out] at kx;have sB:=qH (dw.out.trans ((Fr.of_below (D:=fun q=>q=g17) fP.out).trans (six_fr w9 g17 (.slice gJ gE gl) (.slice gx gT gm) (.int .i64 io) (.int .i64 gw) (.bool f9) (.int .i64 lf9)) (fun q hq=> .inl hq)) (fun q hq=> .inl hq));generalize (sixC w9 g17 (.slice gJ gE gl) (.slice gx gT gm) (.int .i64 io) (.int .i64 gw) (.bool f9) (.int .i64 lf9))=wf at kx sB hHeld⊢;clear hHeld;go_wp2;go_roundw
   case rel=>exact⟨k+1,by omega,by go_num,kx.out,sB.out⟩
   case measure=>simp[intOf];omega
  ·have hkk:k=L:=by omega
   subst hkk;have hfl:=refflush_any htr bE.1 kX;obtain⟨s2,hs2⟩:∃s2,s2=(SS k).flush:=⟨_,rfl⟩
   rw[←hs2] at hfl;have iX:=qH hfl;have dX:=qH hs2;have az:=qH hblk;obtain⟨y0,y1,y2,y3,y4,y5⟩:=cl6 hblk;clear hblk htr bE kX hfl hs2;go_wp2_with fail
   go_at_call 44;refine iX.out.mono ?_;rintro e w8⟨J2,rfl,te,ec⟩;obtain⟨eZ,eM,eO,fa,fd,eV,eQ,eT,mj,eS,rfl⟩:=te.sixn;have DM:=qH te;have nh:=qH (oe.out.below ec oe.out.lt);have uu:=qH ((kU.out.same (dw.out.block g4 kU.out.lt (by omega))).below ec (Nat.lt_of_lt_of_le kU.out.lt dw.out.size));have m5:=qH (dw.out.trans (Fr.of_below (D:=fun q=>q=g17) ec) (fun q hq=> .inl hq));have dD:g4≠g2:=by have:=HG2.out;have:=b7.out;omega
   have ao:=nh.out;have zl:=ao.lt;have zf:=ao.frozen;have z0:=ao.cell 0;have z1:=ao.cell 1;have z2:=ao.cell 2;have z3:=ao.cell 3;have z4:=ao.cell 4;have z5:=ao.cell 5;simp at z0 z1 z2 z3 z4 z5;clear te ec ao;go_wp2_with (first|(rw[six_def];obtain⟨wA,za,dR,m9,vQ⟩:∃wA,wA=sixC w8 g2 (.slice eZ eM eO) (.slice fa fd eV) (.int .i64 eQ) (.int .i64 eT) (.bool mj) (.int .i64 eS)∧Dv.Blk wA g2 42 #[.slice eZ eM eO,.slice fa fd eV,.int .i64 eQ,.int .i64 eT,.bool mj,.int .i64 eS,.slice aR nR cR,.int .i64 (x.ep:Int),.int .i64 (x.ar:Int),.int .i64 (x.us:Int),.int .i64 (x.fr:Int)]∧Dv.Blk wA g4 42 #[.slice none 0 0,.slice none 0 0,.int .i64 0,.int .i64 0,.bool false,.int .i64 0,.slice none 0 0,.int .i64 0,.int .i64 0,.int .i64 0,.int .i64 0]∧Fr (fun q=>q=g2) w8 wA:=⟨_,rfl,six11 nh.out _ _ _ _ _ _,six_far uu.out dD _ _ _ _ _ _,six_fr _ _ _ _ _ _ _ _⟩;rw[←za];clear za z0 z1 z2 z3 z4 z5 zl zf;have Jv:=qH dR;have ni:=qH m9;have tW:=qH vQ;have zl:=dR.lt;have zf:=dR.frozen;have z0:=dR.cell 0;have z1:=dR.cell 1;have z2:=dR.cell 2;have z3:=dR.cell 3;have z4:=dR.cell 4;have z5:=dR.cell 5;have z6:=dR.cell 6;have z7:=dR.cell 7;have z8:=dR.cell 8;have z9:=dR.cell 9;have bN:=dR.cell 10;simp at z0 z1 z2 z3 z4 z5 z6 z7 z8 z9 bN;clear dR m9 vQ)|(refine wpList_store_row rfl 42 (.tmp 4) (.tmp 131) rfl g4 #[.slice eZ eM eO,.slice fa fd eV,.int .i64 eQ,.int .i64 eT,.bool mj,.int .i64 eS,.slice A2 L2.length c2,.int .i64 (x.ep:Int),.int .i64 (x.ar:Int),.int .i64 ((x.us:Int)+(k:Int)),.int .i64 ((x.fr:Int)+1)] rfl rfl 42 #[.slice none 0 0,.slice none 0 0,.int .i64 0,.int .i64 0,.bool false,.int .i64 0,.slice none 0 0,.int .i64 0,.int .i64 0,.int .i64 0,.int .i64 0] ?hg (elv42 _ _ _ _ _ _ _ _ _ _ _) rfl (all11 _ _ _ _ _ _ _ _ _ _ _ _ _ _ _ _ _) ?_;case hg=>exact(((ni.out.far (p:=⟨g2,6,none⟩) dD (.slice A2 L2.length c2)).far (p:=⟨g2,9,none⟩) dD (.int .i64 ((x.us:Int)+(k:Int)))).far (p:=⟨g2,10,none⟩) dD (.int .i64 ((x.fr:Int)+1))))|(refine bodyPost_ret (v:= .tuple #[.agg #[.slice eZ eM eO,.slice fa fd eV,.int .i64 eQ,.int .i64 eT,.bool mj,.int .i64 eS,.slice A2 L2.length c2,.int .i64 (x.ep:Int),.int .i64 (x.ar:Int),.int .i64 ((x.us:Int)+(k:Int)),.int .i64 ((x.fr:Int)+1)],.int .i64 0]) (leaveC8 rfl rfl (row_blk ((((ni.out.far (p:=⟨g2,6,none⟩) dD (.slice A2 L2.length c2)).far (p:=⟨g2,9,none⟩) dD (.int .i64 ((x.us:Int)+(k:Int)))).far (p:=⟨g2,10,none⟩) dD (.int .i64 ((x.fr:Int)+1)))) _)) rfl ?_))
   have hg2:=HG2.out;have hg4:=b7.out;have tE:=(((tW.out.setCell (p:=⟨g2,6,none⟩) (.inl rfl) (.slice A2 L2.length c2)).setCell (p:=⟨g2,9,none⟩) (.inl rfl) (.int .i64 ((x.us:Int)+(k:Int)))).setCell (p:=⟨g2,10,none⟩) (.inl rfl) (.int .i64 ((x.fr:Int)+1)))
   have fo:=qH ((tE.mono (E:=fun q=>q=g2∨q=g4) (fun q hq=> .inl hq)).trans (row_fr _ g4 #[.slice eZ eM eO,.slice fa fd eV,.int .i64 eQ,.int .i64 eT,.bool mj,.int .i64 eS,.slice A2 L2.length c2,.int .i64 (x.ep:Int),.int .i64 (x.ar:Int),.int .i64 ((x.us:Int)+(k:Int)),.int .i64 ((x.fr:Int)+1)]) (fun q hq=> .inl (.inr hq)));have hin:∀q,(q=g2∨q=g4)→Up (Up A g2 (g2+2)) g17 (g17+1) q:=fun q hq=> .inl (.inr (by omega))
   refine⟨_,rfl,?_,cM.out.trans ((((Fr.of_below (D:=fun q=>(q=g2∨q=g4)∨q=g17) tt.out).trans (m5.out.mono (E:=fun q=>(q=g2∨q=g4)∨q=g17) (fun q hq=> .inr hq)) (fun q hq=> .inl hq)).trans fo.out (fun q hq=> .inl (.inl hq))).below (fun q hq=>by have:=cM.out.size;have:=jt.out;have:=aG.out.size;rcases hq with (hq|hq)|hq <;>omega) cM.out.size)⟩;rw[pH.out];have eC:L2=applyL x.rows cs:=by first|exact oV.out|(rw[Dl.out];exact oV.out)
   refine⟨eZ,eM,eO,fa,fd,eV,eQ,eT,mj,eS,A2,L2.length,c2,rfl,?_,?_⟩
   ·rw[←dX.out]
    exact DM.out.fr fo.out hin (fun q hq=> .inl (.inl (.inl hq)))
   ·rw[←eC]
    exact(yd.out.st m5.out (fun q hq=>by omega)).fr fo.out hin (fun q hq=> .inl (.inl (.inl hq)))
theorem ok_layS8{s:Sim}(h:OK s)(ep ar:Nat){ps:List (List UInt8)}(aY:∀p∈ps,p.length=256)(hl:s.loose.length+ps.length*4+1<100000):OK (layS s ep ar ps)∧(layS s ep ar ps).loose.length≤s.loose.length+ps.length*4+1:=by
 have hc:(chunkL64 ps.flatten).length=ps.length*4:=by unfold chunkL64;rw[List.length_map,List.length_range];unfold of64;rw[flat256 aY];omega
 have h1:=writeL_loose s (firstN s.firm.length ar) (chunkL64 ps.flatten) (chunkL64 ps.flatten).length;have h2:=flush_loose (writeL s (firstN s.firm.length ar) (chunkL64 ps.flatten) (chunkL64 ps.flatten).length);have h3:=write_loose (writeL s (firstN s.firm.length ar) (chunkL64 ps.flatten) (chunkL64 ps.flatten).length).flush ((ep%2:Nat):Int) (Str.headL ep ar ps.length);have h4:=flush_loose ((writeL s (firstN s.firm.length ar) (chunkL64 ps.flatten) (chunkL64 ps.flatten).length).flush.write ((ep%2:Nat):Int) (Str.headL ep ar ps.length));refine⟨((ok_writeL8 h _ _ _ (by omega)).flush.write _ _ (by omega)).flush,?_⟩;unfold layS;omega
theorem commit8_ck{A:Nat→Prop}{w:World}{tv lv:Value}{x:Ss}{cs:List Chg}(h:TRs A w tv x)(hA:∀k,A k→k<w.heap.size)(hc:CRd A w lv cs)(hne:cs≠ [])(hl:cs.any longC=false)(hG:GoodX x)(hcb:(chgsB cs).length≤100000000)(hcs:cs.length≤100000)(hp2:(partsL (x.ep:Int) (x.fr:Int) cs).2=true)(hpj:(partsL (x.ep:Int) (x.fr:Int) cs).1.length≤jN x.n)(hft:fitB x.n (applyL x.rows cs)=true)(hroom:jN x.n<x.us+(partsL (x.ep:Int) (x.fr:Int) cs).1.length)(hov:x.ep<1073741824):
  Calls Tryz.prog 24 #[tv,lv] w (GivesT8 A w (putS (ckS x) cs) 0):=by
 obtain⟨aS,nS,cS,aL,nL,cL,cw,cf,f,lf,aR,nR,cR,rfl,hT0,eX⟩:=h;obtain⟨W1,hW1⟩:∃W1,W1=((w.alloc (Obj.cells #[.slice aS nS cS,.slice aL nL cL,.int .i64 cw,.int .i64 cf,.bool f,.int .i64 lf,.slice aR nR cR,.int .i64 (x.ep:Int),.int .i64 (x.ar:Int),.int .i64 (x.us:Int),.int .i64 (x.fr:Int)] 42)).alloc (Obj.cells #[.slice none 0 0,.slice none 0 0,.int .i64 0,.int .i64 0,.bool false,.int .i64 0,.slice none 0 0,.int .i64 0,.int .i64 0,.int .i64 0,.int .i64 0] 42)):=⟨_,rfl⟩
 have ai:Below w.heap.size w W1:=by rw[hW1];exact below2 w _ _
 have hs1:W1.heap.size=w.heap.size+2:=by rw[hW1];simp
 have hb1:Dv.Blk W1 w.heap.size 42 #[.slice aS nS cS,.slice aL nL cL,.int .i64 cw,.int .i64 cf,.bool f,.int .i64 lf,.slice aR nR cR,.int .i64 (x.ep:Int),.int .i64 (x.ar:Int),.int .i64 (x.us:Int),.int .i64 (x.fr:Int)]:=by rw[hW1];exact heap_alloc2_old w _ _
 have hb2:Dv.Blk W1 (w.heap.size+1) 42 #[.slice none 0 0,.slice none 0 0,.int .i64 0,.int .i64 0,.bool false,.int .i64 0,.slice none 0 0,.int .i64 0,.int .i64 0,.int .i64 0,.int .i64 0]:=by rw[hW1];exact heap_alloc2_new w _ _
 have hT:TRd (Up A w.heap.size (w.heap.size+2)) W1 (.agg #[.slice aS nS cS,.slice aL nL cL,.int .i64 cw,.int .i64 cf,.bool f,.int .i64 lf]) x.d:=hT0.up_ ai (Nat.le_refl _);have dy:RRd (Up A w.heap.size (w.heap.size+2)) W1 (.slice aR nR cR) x.rows:=eX.up_ ai (Nat.le_refl _);have cy:∀k,Up A w.heap.size (w.heap.size+2) k→k<W1.heap.size:=up_lt hA (by omega) ai.size;have it:=qH (trs_mk hT dy);have hcr:∀X,Below W1.heap.size W1 X→RC X lv cs:=fun X hX=>rc_below (rc_below hc.rc ai (Nat.le_refl _)) hX (by have:=ai.size;omega)
 obtain⟨aC,cC,hlv,wI,hcm⟩:=rc_shape hc.rc;subst hlv;have aD:=qH hb1;have bo:=qH hb2;have aw:=qH ai;have dM:=qH hW1;have vd:=qH hcr;have ga:=qH cy;have iN:=fun(X:World) (hX:Below W1.heap.size W1 X)=>fun k (hk:Up A w.heap.size (w.heap.size+2) k)=>Nat.lt_of_lt_of_le (cy k hk) hX.size
 have jE:=qH iN;have jV:=hT.len_;have hn:=hG.n;have dt:x.n≤4096:=hG.ok.n;have lk:x.d.firm.length≤4096:=hG.ok.n;have hn':64≤x.d.firm.length:=hG.n;have fi:=hG.ep;have har:=hG.ar;have ag:=hG.us;have ax:=hG.fr;have eC:=(rows_few_ hG).2;have uN:x.us≤1024:=by have:=jN_le x.n;omega
 obtain⟨J,hJ⟩:∃J,J=jN nS:=⟨_,rfl⟩
 obtain⟨M,hM⟩:∃M,M=aN nS:=⟨_,rfl⟩
 have D8:J≤1024:=by rw[hJ,jV];have:=jN_le x.d.firm.length;omega
 have ak:=fun X=>layout8_any (nS:Int) (by omega) (by omega) X
 rw[layJ_nat,layA_nat,←hM,←hJ] at ak;have aZ:=qH ak;have HL:=qH (long8_any _ cs W1 (hcr _ (Below.refl _ _)));rw[hl] at HL;obtain⟨L2,hL2⟩:∃L2,L2=applyL x.rows cs:=⟨_,rfl⟩
 have hap:=fun(X:World) (hX:Below W1.heap.size W1 X)=>refApplyD_any _ _ _ _ X (iN X hX) (dy.below hX) (show CRd (Up A w.heap.size (w.heap.size+2)) X (.slice aC cs.length cC) cs from(CVP.below (P':=RAd (Up A w.heap.size (w.heap.size+2)) W1) hc ai (fun _ _ h=>h.fr (D:=fun _=>False) (Fr.of_below ai) (fun _ h=>h.elim) (up_new (Nat.le_refl _)))).below' hX) (by omega)
 rw[←hL2] at hap;have eB:=qH hap;have oV:=qH hL2;have HJ:=qH hJ;have tK:=qH hM;have lC:=qH jV;have uc:=qH hG;have ra:=qH hT;have hpt:=fun(X:World) (hX:Below W1.heap.size W1 X)=>refParts_any (x.ep:Int) (x.fr:Int) _ cs X (hcr X hX) hcb (by omega)
 obtain⟨⟨P1,P2⟩,bC⟩:∃PL,PL=partsL (x.ep:Int) (x.fr:Int) cs:=⟨_,rfl⟩
 rw[←bC] at hpt;have ki:=qH hpt;have cW:=qH bC;have EE:P1.length≤200:=by have:=parts_len (x.ep:Int) (x.fr:Int) cs;rw[←bC] at this;exact this
 have hcw:∀X,Below w.heap.size w X→RC X (.slice aC cs.length cC) cs:=fun X hX=>rc_below hc.rc hX (Nat.le_refl _)
 have Bm:=qH hcw;clear hcw;have hcl:(0:Int)<(cs.length:Int):=by have:=List.length_pos_iff.2 hne;omega
 have iF:((cs.length:Int)==0)=false:=by rw[beq_eq_false_iff_ne];omega
 clear hpt bC hap hL2 hJ hM ak hG jV hn dt lk hn' ag eC;clear hA hc ai hs1 hb1 hb2 cy hW1 hT0 eX hcr iN hT dy;obtain⟨g2,hg2⟩:∃g2,g2=w.heap.size:=⟨_,rfl⟩
 obtain⟨g4,hg4⟩:∃g4,g4=w.heap.size+1:=⟨_,rfl⟩
 rw[←hg4] at bo;rw[←hg2] at aD it ga jE eB ra;have b7:=qH hg4;have HG2:=qH hg2;clear hg4 hg2;go_enter Tryz.func24,Tryz.ntmps24;have GV:(J:Int)<(x.us:Int)+(P1.length:Int):=by
  have e:=cW.out;have h2:J<x.us+P1.length:=by rw[HJ.out,lC.out];rw[←e] at hroom;exact hroom
  omega
 have pU:=qH hov;clear hroom hov;have f6:P2=true:=by have e:=cW.out;rw[←e] at hp2;exact hp2
 subst f6;have Hz:(P1.length:Int)≤(J:Int):=by
  have e:=cW.out;have h2:P1.length≤J:=by rw[HJ.out,lC.out];rw[←e] at hpj;exact hpj
  omega
 obtain⟨ps,hbl,oE⟩:∃ps,buildL L2=some ps∧ps.length≤M:=by
  rw[oV.out,tK.out,lC.out];unfold fitB at hft;split at hft
  ·rename_i ps e
   exact⟨ps,e,of_decide_eq_true hft⟩
  ·cases hft
 have hle:(ps.length:Int)≤(M:Int):=by omega
 clear hp2 hpj hft oE;go_wp2_with fail
 rw[←dM.out,←b7.out,←HG2.out];refine HL.out.mono ?_;rintro e w1⟨rfl,hb1⟩;have al:=qH hb1;have ao:=aD.out.below hb1 aD.out.lt;have zl:=ao.lt;obtain⟨z0,z1,z2,z3,z4,z5,z6,z7,z8,z9,bN⟩:=cl11 ao;clear ao hb1;go_wp2_with fail
 refine(eB.out _ al.out).mono ?_;rintro e w2⟨v2,rfl,hr2,hb2⟩;obtain⟨A2,c2,rfl,hsh⟩:=RVP.shape hr2;have dq:=qH hr2;have ae:=qH (al.out.trans (hb2.mono al.out.size));have dd:=qH (refBuild_any _ _ w2 hr2.rr);have ao:=aD.out.below ae.out aD.out.lt;have zl:=ao.lt;obtain⟨z0,z1,z2,z3,z4,z5,z6,z7,z8,z9,bN⟩:=cl11 ao;clear ao hb2 hr2 hsh;go_wp2_with (go_at_call 30;refine(aZ.out _).mono ?_;rintro e wq ⟨rfl,rfl⟩)
 rw[hbl] at dd;refine dd.out.mono ?_;rintro e w3⟨pv,rfl,hop,hb3⟩;have aj:=qH (ae.out.trans (hb3.mono ae.out.size));have bM:=qH (dq.out.below hb3);have ao:=aD.out.below aj.out aD.out.lt;have zl:=ao.lt;obtain⟨z0,z1,z2,z3,z4,z5,z6,z7,z8,z9,bN⟩:=cl11 ao;clear ao hb3;obtain⟨Ap,cp,rfl,bI,bO⟩:=hop.shape;simp only[Option.isSome,Option.getD_some];clear bI bO hop;go_wp2_with fail
 refine(ki.out _ aj.out).mono ?_;rintro e w4⟨sv,rfl,hop,hb4⟩;obtain⟨As,vV,rfl,bI,bO⟩:=hop.shape;have ah:=qH (aj.out.trans (hb4.mono aj.out.size));have i9:=qH (bM.out.below hb4);clear bI bO hop hb4;have ao:=aD.out.below ah.out aD.out.lt;have zl:=ao.lt;obtain⟨z0,z1,z2,z3,z4,z5,z6,z7,z8,z9,bN⟩:=cl11 ao;clear ao;have ut:=ck8_any (it.out.below ah.out) (jE.out _ ah.out) uc.out pU.out;have rP:Hid (OK (ckS x).d∧(ckS x).d.loose.length≤20000):=qH (by
  have hG:=uc.out;obtain⟨ps',vZ,Ke⟩:=hG.fit;have dt:x.n≤4096:=hG.ok.n;have ha:=aN_le x.n;have hlo:=hG.lo;have:=ok_layS8 hG.ok (x.ep+1) (1-x.ar) (built_256 vZ) (by omega);have e:(ckS x).d=layS x.d (x.ep+1) (1-x.ar) ps':=by unfold ckS;rw[vZ];rfl
  rw[e];exact⟨this.1,by omega⟩)
 obtain⟨y,hy⟩:∃y,y=ckS x:=⟨_,rfl⟩
 have Dl:=qH (show y.rows=x.rows by rw[hy];rfl);have HY:=qH hy;have GY:y.us=0:=by rw[hy];rfl
 have GO:y.fr=0:=by rw[hy];rfl
 have Jy:y.ep≤1073741824:=by rw[hy];have:=pU.out;show x.ep+1≤_;omega
 have KQ:y.us≤1024:=by omega
 have Jn:y.fr≤1024:=by omega
 rw[←hy] at ut rP⊢;have ny:=qH ut;have dD:g4≠g2:=by have:=HG2.out;have:=b7.out;omega
 clear ut hy GY GO;go_wp2_with fail
 refine ny.out.mono ?_;rintro e w5⟨vq,rfl,fW,aq⟩;obtain⟨fJ,fF,fD,fy,fM,fG,fA,fj,f5,lf5,oZ,o7,pf,rfl,xh,E4⟩:=fW;have ay:=qH (ah.out.trans (aq.mono ah.out.size));have iV:=qH ((aD.out.below ay.out aD.out.lt).alloc (Obj.cells #[.slice fJ fF fD,.slice fy fM fG,.int .i64 fA,.int .i64 fj,.bool f5,.int .i64 lf5,.slice oZ o7 pf,.int .i64 (y.ep:Int),.int .i64 (y.ar:Int),.int .i64 (y.us:Int),.int .i64 (y.fr:Int)] 42));have CI:=qH xh;have uF:=qH (i9.out.below aq);have ao:=aD.out.below ay.out aD.out.lt;have zl:=ao.lt;obtain⟨z0,z1,z2,z3,z4,z5,z6,z7,z8,z9,bN⟩:=cl11 ao;clear ao aq xh E4;go_wp2_with (refine wpList_store_row rfl 42 (.tmp 2) (.tmp 87) rfl g2 #[.slice fJ fF fD,.slice fy fM fG,.int .i64 fA,.int .i64 fj,.bool f5,.int .i64 lf5,.slice oZ o7 pf,.int .i64 (y.ep:Int),.int .i64 (y.ar:Int),.int .i64 (y.us:Int),.int .i64 (y.fr:Int)] rfl rfl 42 #[.slice aS nS cS,.slice aL nL cL,.int .i64 cw,.int .i64 cf,.bool f,.int .i64 lf,.slice aR nR cR,.int .i64 (x.ep:Int),.int .i64 (x.ar:Int),.int .i64 (x.us:Int),.int .i64 (x.fr:Int)] ?hg (elv42 _ _ _ _ _ _ _ _ _ _ _) rfl (all11 _ _ _ _ _ _ _ _ _ _ _ _ _ _ _ _ _) ?_;(case hg=>exact iV.out);obtain⟨wT,hwT,fm,Hk,lq⟩:∃wT,wT=(w5.alloc (Obj.cells #[.slice fJ fF fD,.slice fy fM fG,.int .i64 fA,.int .i64 fj,.bool f5,.int .i64 lf5,.slice oZ o7 pf,.int .i64 (y.ep:Int),.int .i64 (y.ar:Int),.int .i64 (y.us:Int),.int .i64 (y.fr:Int)] 42)).setRow g2 #[.slice fJ fF fD,.slice fy fM fG,.int .i64 fA,.int .i64 fj,.bool f5,.int .i64 lf5,.slice oZ o7 pf,.int .i64 (y.ep:Int),.int .i64 (y.ar:Int),.int .i64 (y.us:Int),.int .i64 (y.fr:Int)]∧Dv.Blk wT g2 42 #[.slice fJ fF fD,.slice fy fM fG,.int .i64 fA,.int .i64 fj,.bool f5,.int .i64 lf5,.slice oZ o7 pf,.int .i64 (y.ep:Int),.int .i64 (y.ar:Int),.int .i64 (y.us:Int),.int .i64 (y.fr:Int)]∧Dv.Blk wT g4 42 #[.slice none 0 0,.slice none 0 0,.int .i64 0,.int .i64 0,.bool false,.int .i64 0,.slice none 0 0,.int .i64 0,.int .i64 0,.int .i64 0,.int .i64 0]∧Fr (fun q=>q=g2) w5 wT:=⟨_,rfl,row_blk iV.out _,((bo.out.below ay.out bo.out.lt).alloc (Obj.cells #[.slice fJ fF fD,.slice fy fM fG,.int .i64 fA,.int .i64 fj,.bool f5,.int .i64 lf5,.slice oZ o7 pf,.int .i64 (y.ep:Int),.int .i64 (y.ar:Int),.int .i64 (y.us:Int),.int .i64 (y.fr:Int)] 42)).same (setRow_other _ g2 g4 _ dD),((Fr.refl (fun q=>q=g2) w5).alloc (Obj.cells #[.slice fJ fF fD,.slice fy fM fG,.int .i64 fA,.int .i64 fj,.bool f5,.int .i64 lf5,.slice oZ o7 pf,.int .i64 (y.ep:Int),.int .i64 (y.ar:Int),.int .i64 (y.us:Int),.int .i64 (y.fr:Int)] 42)).trans (row_fr _ g2 _) (fun q hq=> .inl hq)⟩;rw[←hwT];clear hwT z0 z1 z2 z3 z4 z5 z6 z7 z8 z9 bN;have ft:=qH fm;have pK:=qH Hk;have de:=qH lq;have zl:=fm.lt;have z0:=fm.cell 0;have z1:=fm.cell 1;have z2:=fm.cell 2;have z3:=fm.cell 3;have z4:=fm.cell 4;have z5:=fm.cell 5;have z6:=fm.cell 6;have z7:=fm.cell 7;have z8:=fm.cell 8;have z9:=fm.cell 9;have bN:=fm.cell 10;simp at z0 z1 z2 z3 z4 z5 z6 z7 z8 z9 bN;clear fm Hk lq)
 have cM:=qH (aw.out.trans (((Fr.of_below (D:=fun q=>q=g2) ay.out).trans de.out (fun q hq=> .inl hq)).below (fun q hq=>by have:=HG2.out;omega) aw.out.size));have th:∀q,q=g2→g2≤q∧q<g2+2:=fun q hq=>by omega
 have qF:=qH (CI.out.st de.out th);have gc:=qH (uF.out.st de.out th);have Ef:=qH (fun q hq=>Nat.lt_of_lt_of_le (jE.out _ ay.out q hq) de.out.size);clear th;have kW:=refParts_any (y.ep:Int) (y.fr:Int) _ cs wT (Bm.out _ cM.out) hcb (by omega);obtain⟨⟨B,B2⟩,hB⟩:∃PL,PL=partsL (y.ep:Int) (y.fr:Int) cs:=⟨_,rfl⟩
 rw[←hB] at kW;have Gg:B.length≤200:=by have:=parts_len (y.ep:Int) (y.fr:Int) cs;rw[←hB] at this;exact this
 have sW:=qH kW;have es:=qH hB;clear kW hB;refine sW.out.mono ?_;rintro e w6⟨bv,rfl,hop,au⟩;obtain⟨Ab,cb,rfl,bI,bO⟩:=hop.shape;have ze:=qH (OP.rp hop);have aG:=qH au;have ao:=ft.out.below au ft.out.lt;have zl:=ao.lt;obtain⟨z0,z1,z2,z3,z4,z5,z6,z7,z8,z9,bN⟩:=cl11 ao;obtain⟨W7,oq⟩:∃W7,W7=w6.alloc (Obj.cells #[.slice fJ fF fD,.slice fy fM fG,.int .i64 fA,.int .i64 fj,.bool f5,.int .i64 lf5] 29):=⟨_,rfl⟩
 have bR:Below w6.heap.size w6 W7:=by rw[oq];exact(Below.refl _ _).alloc (Nat.le_refl _) _
 have gr:Below wT.heap.size wT W7:=au.trans (bR.mono au.size);obtain⟨g17,dB⟩:∃g17,g17=w6.heap.size:=⟨_,rfl⟩
 have po:W7.heap.size=g17+1:=by rw[oq,dB];simp
 have jU:Dv.Blk W7 g17 29 #[.slice fJ fF fD,.slice fy fM fG,.int .i64 fA,.int .i64 fj,.bool f5,.int .i64 lf5]:=by rw[oq,dB];exact heap_alloc_new w6 _
 have htd:=(qF.out.below au).up_ (n:=g17) (m:=g17+1) bR (by omega);have jz:=qH (show BoxT (Up (Up A g2 (g2+2)) g17 (g17+1)) W7 g17 y.d from⟨_,_,_,_,_,_,_,_,_,_,jU,htd⟩);have Dq:=qH (show ∀k,Up (Up A g2 (g2+2)) g17 (g17+1) k→k<W7.heap.size from fun k hk=>by
  rcases hk with hk|hk
  ·exact Nat.lt_of_lt_of_le (Ef.out k hk) gr.size
  ·omega)
 have Fd:=qH oq;have bJ:=qH bR;have tt:=qH gr;have jt:=qH dB;have vx:=qH po;have om:=qH (ft.out.below gr ft.out.lt);have gp:g2<g17:=by have:=(ft.out.below au ft.out.lt).lt;omega
 have kh:g4<g17:=by have:=(pK.out.below au pK.out.lt).lt;omega
 have kU:=qH (pK.out.below gr pK.out.lt);have yd:=qH ((gc.out.below au).up_ (n:=g17) (m:=g17+1) bR (by omega));obtain⟨L,hL⟩:∃L,L=B.length:=⟨_,rfl⟩
 rw[←hL] at Gg;have uk:=qH hL;obtain⟨SS,gG⟩:∃SS:Nat→Sim,SS=fun m=>writeL y.d (2+y.us) B m:=⟨_,rfl⟩
 have Am:=qH (show SS 0=y.d by rw[gG];rfl);have jo:=qH (show ∀m,SS (m+1)=(SS m).write ((2+y.us+m:Nat):Int) (B.getD m []) from fun m=>by rw[gG];rfl);have pi:=qH (show ∀m,m≤300→OK (SS m)∧(SS m).loose.length<60000 from fun m hm=>by
  rw[gG];exact⟨ok_writeL8 rP.out.1 _ _ m (by have:=rP.out.2;omega),(by have:=writeL_loose y.d (2+y.us) B m;have:=rP.out.2;show(writeL y.d (2+y.us) B m).loose.length<60000;omega)⟩)
 have pH:=qH (show putS y cs={d:=(SS L).flush,rows:=applyL y.rows cs,ep:=y.ep,ar:=y.ar,us:=y.us+L,fr:=y.fr+1} by unfold putS;rw[←es.out,gG,hL]);rw[←Am.out] at jz;rw[←hL];clear hop au bR gr po jU htd oq bI bO ao gG hL;go_wp2_with fail
 rw[←Fd.out,←dB];clear dB
 go_loopw [18] (fun i wr=>∃k:Nat,k≤L∧i= .int .i64 k∧BoxT (Up (Up A g2 (g2+2)) g17 (g17+1)) wr g17 (SS k)∧Fr (fun j=>j=g17) W7 wr) (fun i _=>L-(intOf i).toNat)
 case atStart=>exact⟨0,Nat.zero_le _,rfl,jz.out,Fr.refl _ _⟩
 case round=>
  obtain⟨k,hk,rfl,bz,ax⟩:=hrel;obtain⟨aS,nS,cS,aL,nL,cL,cw,cf,f,lf,hblk,htr⟩:=bz;have bE:=pi.out k (by omega);have kX:=fun q hq=>Nat.lt_of_lt_of_le (Dq.out q hq) ax.size
  have hk2:=om.out.same (ax.block g2 om.out.lt (by omega));have oe:=qH hk2;have dw:=qH ax;by_cases hlt:k<L
  ·have xG:k<B.length:=by rw[←uk.out];exact hlt
   obtain⟨bP,oP,u,rfl,mp,hu,bi⟩:=rp_at ze.out xG;have zh:bP<g17:=by rw[jt.out];exact mp
   have sJ:wr.cell? ⟨bP,oP+k,none⟩=some u:=(World.cell?_of_block (a:=⟨bP,oP+k,none⟩) (ax.block bP (by have:=vx.out;omega) (by omega))).trans ((bJ.out.cell (p:=⟨bP,oP+k,none⟩) mp).trans hu);have kO:RB wr u B[k]:=RB.fr (bi.below bJ.out) ax (fun hl q hq hd=>by have:=RB.lt_ bi hl hq;have:=jt.out;omega);have hgd:B.getD k []=B[k]:=by rw[List.getD_eq_getElem?_getD,List.getElem?_eq_getElem xG];rfl
   have hnx:=jo.out k;rw[hgd] at hnx;have hwr:=fun(X:World) (hX:Below wr.heap.size wr X)=>wr8_any (((2+y.us+k:Nat):Int)) B[k] (htr.below hX) bE.1 (fun q hq=>Nat.lt_of_lt_of_le (kX q hq) hX.size) (by omega) (kO.below hX)
   rw[←hnx,show((2+y.us+k:Nat):Int)=2+(y.us:Int)+(k:Int) by omega] at hwr;obtain⟨s2,hs2⟩:∃s2,s2=SS (k+1):=⟨_,rfl⟩
   rw[←hs2] at hwr;obtain⟨Au,cu,ag⟩:=rb_shape kO;obtain⟨nu,nM⟩:∃nu,nu=B[k].length:=⟨_,rfl⟩
   rw[←nM] at ag;subst ag;have i7:=qH hwr;have dX:=qH hs2;have az:=qH hblk;have HU:=qH sJ;have fO:=qH (show bP≠g17 by omega);have np:bP<wr.heap.size:=World.block_lt_of_cell? wr _ sJ;have hx1:IntKind.i64.wrap (2+(y.us:Int))=2+(y.us:Int):=by rw[IntKind.wrap_i64];omega
   have hx2:IntKind.i64.wrap (2+(y.us:Int)+(k:Int))=2+(y.us:Int)+(k:Int):=by rw[IntKind.wrap_i64];omega
   obtain⟨y0,y1,y2,y3,y4,y5⟩:=cl6 hblk;have q1:(0:Int)≤(k:Int):=by omega
   have q2:(k:Int)<(L:Int):=by omega
   clear hblk htr bE kX hk2 ax mp hu bi sJ kO hgd hnx hwr hs2 nM;go_wp2_with fail
   refine wp_region_held_drew (S:=fun X=>Fr (fun q=>q=g17) wr X) (by kernel_rfl) ((Fr.refl _ _).drew) (fun hHeld=>?_);refine tkC 1 ?_;refine tkA 2 (v:=?_) ?_ ?_;rotate_left
   ·intro W hSw;have hq:=(World.cell?_of_block (a:=⟨g2,9,none⟩) (hSw.block g2 oe.out.lt (by omega))).trans (oe.out.cell 9);simp at hq;go_simp;try (with_reducible rfl)
   try simp only[Act.put,zA,zB,zC]
   refine tkC 3 ?_;refine tkC 4 ?_;refine tkC 5 ?_;refine tkC 6 ?_;refine tkC 7 ?_;refine tkC 8 ?_;refine tkA 9 (v:=?_) ?_ ?_;rotate_left
   ·intro W hSw;have hq:=(World.cell?_of_block (a:=⟨bP,oP+k,none⟩) (hSw.block bP np fO.out)).trans HU.out;go_simp;try (with_reducible rfl)
   try simp only[Act.put,zA,zB,zC]
   refine rdA (rs:= [0]) ?_;refine arC (fun K hK=>?_);go_simp;refine hK.out _ _ ?_ (fun _=>?_)
   ·exact hHeld
   clear hK K;try simp only[Act.put,zA,zB,zC]
   refine rdA (rs:= [10]) ?_;refine arC (fun K hK=>?_);go_simp;refine(i7.out _ ((Below.refl wr.heap.size wr).drew)).mono ?_;rintro e w9⟨BG,rfl,js,fx⟩;obtain⟨gJ,gE,gl,gx,gT,gm,io,gw,f9,lf9,rfl⟩:=js.sixn;have qr:=qH js;have t5:Below wr.heap.size wr w9:=((Below.refl wr.heap.size wr).drew).trans fx;have fP:=qH t5;clear js fx;refine hK.out _ _ ?_ (fun hHeld=>?_)
   ·exact(Fr.of_below fP.out)
   clear hK K;try simp only[Act.put,zA,zB,zC]
   refine rdA (rs:= [11]) ?_;refine arC (fun K hK=>?_);have a9:=az.out.below fP.out az.out.lt;clear y0 y1 y2 y3 y4 y5;obtain⟨y0,y1,y2,y3,y4,y5⟩:=cl6 a9;have df:=a9.frozen;have dl:=a9.lt;go_simp;try rw[six_def]
   refine hK.out _ _ ?_ (fun hHeld=>?_)
   ·exact((Fr.of_below fP.out).trans (six_fr w9 g17 (.slice gJ gE gl) (.slice gx gT gm) (.int .i64 io) (.int .i64 gw) (.bool f9) (.int .i64 lf9)) (fun q hq=> .inl hq))
   clear hK K;try simp only[Act.put,zA,zB,zC]
   refine wpAnyH_done (by kernel_rfl) ?_ _;have kx:=qH (BoxT.store (az.out.below fP.out az.out.lt) qr.out (.inr ⟨Nat.le_refl _,by omega⟩));rw[dX.out] at kx;have sB:=qH (dw.out.trans ((Fr.of_below (D:=fun q=>q=g17) fP.out).trans (six_fr w9 g17 (.slice gJ gE gl) (.slice gx gT gm) (.int .i64 io) (.int .i64 gw) (.bool f9) (.int .i64 lf9)) (fun q hq=> .inl hq)) (fun q hq=> .inl hq));generalize (sixC w9 g17 (.slice gJ gE gl) (.slice gx gT gm) (.int .i64 io) (.int .i64 gw) (.bool f9) (.int .i64 lf9))=wf at kx sB hHeld⊢;clear hHeld;go_wp2;go_roundw
   case rel=>exact⟨k+1,by omega,by go_num,kx.out,sB.out⟩
   case measure=>simp[intOf];omega
  ·have hkk:k=L:=by omega
   subst hkk;have hfl:=refflush_any htr bE.1 kX;obtain⟨s2,hs2⟩:∃s2,s2=(SS k).flush:=⟨_,rfl⟩
   rw[←hs2] at hfl;have iX:=qH hfl;have dX:=qH hs2;have az:=qH hblk;obtain⟨y0,y1,y2,y3,y4,y5⟩:=cl6 hblk;clear hblk htr bE kX hfl hs2;go_wp2_with fail
   go_at_call 44;refine iX.out.mono ?_;rintro e w8⟨J2,rfl,te,ec⟩;obtain⟨eZ,eM,eO,fa,fd,eV,eQ,eT,mj,eS,rfl⟩:=te.sixn;have DM:=qH te;have nh:=qH (oe.out.below ec oe.out.lt);have uu:=qH ((kU.out.same (dw.out.block g4 kU.out.lt (by omega))).below ec (Nat.lt_of_lt_of_le kU.out.lt dw.out.size));have m5:=qH (dw.out.trans (Fr.of_below (D:=fun q=>q=g17) ec) (fun q hq=> .inl hq));have ao:=nh.out;have zl:=ao.lt;have zf:=ao.frozen;have z0:=ao.cell 0;have z1:=ao.cell 1;have z2:=ao.cell 2;have z3:=ao.cell 3;have z4:=ao.cell 4;have z5:=ao.cell 5;simp at z0 z1 z2 z3 z4 z5;clear te ec ao;go_wp2_with (first|(rw[six_def];obtain⟨wA,za,dR,m9,vQ⟩:∃wA,wA=sixC w8 g2 (.slice eZ eM eO) (.slice fa fd eV) (.int .i64 eQ) (.int .i64 eT) (.bool mj) (.int .i64 eS)∧Dv.Blk wA g2 42 #[.slice eZ eM eO,.slice fa fd eV,.int .i64 eQ,.int .i64 eT,.bool mj,.int .i64 eS,.slice oZ o7 pf,.int .i64 (y.ep:Int),.int .i64 (y.ar:Int),.int .i64 (y.us:Int),.int .i64 (y.fr:Int)]∧Dv.Blk wA g4 42 #[.slice none 0 0,.slice none 0 0,.int .i64 0,.int .i64 0,.bool false,.int .i64 0,.slice none 0 0,.int .i64 0,.int .i64 0,.int .i64 0,.int .i64 0]∧Fr (fun q=>q=g2) w8 wA:=⟨_,rfl,six11 nh.out _ _ _ _ _ _,six_far uu.out dD _ _ _ _ _ _,six_fr _ _ _ _ _ _ _ _⟩;rw[←za];clear za z0 z1 z2 z3 z4 z5 zl zf;have Jv:=qH dR;have ni:=qH m9;have tW:=qH vQ;have zl:=dR.lt;have zf:=dR.frozen;have z0:=dR.cell 0;have z1:=dR.cell 1;have z2:=dR.cell 2;have z3:=dR.cell 3;have z4:=dR.cell 4;have z5:=dR.cell 5;have z6:=dR.cell 6;have z7:=dR.cell 7;have z8:=dR.cell 8;have z9:=dR.cell 9;have bN:=dR.cell 10;simp at z0 z1 z2 z3 z4 z5 z6 z7 z8 z9 bN;clear dR m9 vQ)|(refine wpList_store_row rfl 42 (.tmp 4) (.tmp 131) rfl g4 #[.slice eZ eM eO,.slice fa fd eV,.int .i64 eQ,.int .i64 eT,.bool mj,.int .i64 eS,.slice A2 L2.length c2,.int .i64 (y.ep:Int),.int .i64 (y.ar:Int),.int .i64 ((y.us:Int)+(k:Int)),.int .i64 ((y.fr:Int)+1)] rfl rfl 42 #[.slice none 0 0,.slice none 0 0,.int .i64 0,.int .i64 0,.bool false,.int .i64 0,.slice none 0 0,.int .i64 0,.int .i64 0,.int .i64 0,.int .i64 0] ?hg (elv42 _ _ _ _ _ _ _ _ _ _ _) rfl (all11 _ _ _ _ _ _ _ _ _ _ _ _ _ _ _ _ _) ?_;case hg=>exact(((ni.out.far (p:=⟨g2,6,none⟩) dD (.slice A2 L2.length c2)).far (p:=⟨g2,9,none⟩) dD (.int .i64 ((y.us:Int)+(k:Int)))).far (p:=⟨g2,10,none⟩) dD (.int .i64 ((y.fr:Int)+1))))|(refine bodyPost_ret (v:= .tuple #[.agg #[.slice eZ eM eO,.slice fa fd eV,.int .i64 eQ,.int .i64 eT,.bool mj,.int .i64 eS,.slice A2 L2.length c2,.int .i64 (y.ep:Int),.int .i64 (y.ar:Int),.int .i64 ((y.us:Int)+(k:Int)),.int .i64 ((y.fr:Int)+1)],.int .i64 0]) (leaveC8 rfl rfl (row_blk ((((ni.out.far (p:=⟨g2,6,none⟩) dD (.slice A2 L2.length c2)).far (p:=⟨g2,9,none⟩) dD (.int .i64 ((y.us:Int)+(k:Int)))).far (p:=⟨g2,10,none⟩) dD (.int .i64 ((y.fr:Int)+1)))) _)) rfl ?_))
   have hg2:=HG2.out;have hg4:=b7.out;have tE:=(((tW.out.setCell (p:=⟨g2,6,none⟩) (.inl rfl) (.slice A2 L2.length c2)).setCell (p:=⟨g2,9,none⟩) (.inl rfl) (.int .i64 ((y.us:Int)+(k:Int)))).setCell (p:=⟨g2,10,none⟩) (.inl rfl) (.int .i64 ((y.fr:Int)+1)))
   have fo:=qH ((tE.mono (E:=fun q=>q=g2∨q=g4) (fun q hq=> .inl hq)).trans (row_fr _ g4 #[.slice eZ eM eO,.slice fa fd eV,.int .i64 eQ,.int .i64 eT,.bool mj,.int .i64 eS,.slice A2 L2.length c2,.int .i64 (y.ep:Int),.int .i64 (y.ar:Int),.int .i64 ((y.us:Int)+(k:Int)),.int .i64 ((y.fr:Int)+1)]) (fun q hq=> .inl (.inr hq)));have hin:∀q,(q=g2∨q=g4)→Up (Up A g2 (g2+2)) g17 (g17+1) q:=fun q hq=> .inl (.inr (by omega))
   refine⟨_,rfl,?_,cM.out.trans ((((Fr.of_below (D:=fun q=>(q=g2∨q=g4)∨q=g17) tt.out).trans (m5.out.mono (E:=fun q=>(q=g2∨q=g4)∨q=g17) (fun q hq=> .inr hq)) (fun q hq=> .inl hq)).trans fo.out (fun q hq=> .inl (.inl hq))).below (fun q hq=>by have:=cM.out.size;have:=jt.out;have:=aG.out.size;rcases hq with (hq|hq)|hq <;>omega) cM.out.size)⟩;rw[←HY.out,pH.out];have eC:L2=applyL y.rows cs:=by first|exact oV.out|(rw[Dl.out];exact oV.out)
   refine⟨eZ,eM,eO,fa,fd,eV,eQ,eT,mj,eS,A2,L2.length,c2,rfl,?_,?_⟩
   ·rw[←dX.out]
    exact DM.out.fr fo.out hin (fun q hq=> .inl (.inl (.inl hq)))
   ·rw[←eC]
    exact(yd.out.st m5.out (fun q hq=>by omega)).fr fo.out hin (fun q hq=> .inl (.inl (.inl hq)))
theorem commit8_any{A:Nat→Prop}{w:World}{tv lv:Value}{x:Ss}{cs:List Chg}(h:TRs A w tv x)(hA:∀k,A k→k<w.heap.size)(hc:CRd A w lv cs)(hG:GoodX x)(hcb:(chgsB cs).length≤100000000)(hcs:cs.length≤100000):
  Calls Tryz.prog 24 #[tv,lv] w (GivesT8 A w (commitR x cs).1 (commitR x cs).2):=by
 by_cases h1:cs= []
 ·have he:commitR x cs=(x,0):=by unfold commitR;rw[if_pos h1]
  rw[he];exact commit8_nil h hA hc h1
 cases h2:cs.any longC with
 |true=>
  have he:commitR x cs=(x,3):=by unfold commitR;rw[if_neg h1,if_pos h2]
  rw[he];exact commit8_long h hA hc h1 h2
 |false=>
 have h2':¬cs.any longC=true:=by rw[h2];decide
 by_cases h3:(partsL (x.ep:Int) (x.fr:Int) cs).2=false∨jN x.n<(partsL (x.ep:Int) (x.fr:Int) cs).1.length
 ·have he:commitR x cs=(x,21):=by unfold commitR;rw[if_neg h1,if_neg h2',if_pos h3]
  rw[he];exact commit8_full h hA hc h1 h2 hG hcb hcs (.inr h3)
 have sp:(partsL (x.ep:Int) (x.fr:Int) cs).2=true:=by
  cases hh:(partsL (x.ep:Int) (x.fr:Int) cs).2 with
  |true=>rfl
  |false=>exact absurd (.inl hh) h3
 have rj:(partsL (x.ep:Int) (x.fr:Int) cs).1.length≤jN x.n:=by
  rcases Nat.lt_or_ge (jN x.n) (partsL (x.ep:Int) (x.fr:Int) cs).1.length with hh|hh
  ·exact absurd (.inr hh) h3
  ·exact hh
 cases h4:fitB x.n (applyL x.rows cs) with
 |false=>
  have he:commitR x cs=(x,21):=by unfold commitR;rw[if_neg h1,if_neg h2',if_neg h3,if_pos h4]
  rw[he];exact commit8_full h hA hc h1 h2 hG hcb hcs (.inl h4)
 |true=>
 have h4':¬fitB x.n (applyL x.rows cs)=false:=by rw[h4];decide
 by_cases h5:x.us+(partsL (x.ep:Int) (x.fr:Int) cs).1.length≤jN x.n
 ·have he:commitR x cs=(putS x cs,0):=by unfold commitR;rw[if_neg h1,if_neg h2',if_neg h3,if_neg h4',if_pos h5]
  rw[he];exact commit8_put h hA hc h1 h2 hG hcb hcs sp rj h4 h5
 have qO:jN x.n<x.us+(partsL (x.ep:Int) (x.fr:Int) cs).1.length:=Nat.lt_of_not_le h5;by_cases h6:x.ep=1073741824
 ·have he:commitR x cs=(x,32):=by unfold commitR;rw[if_neg h1,if_neg h2',if_neg h3,if_neg h4',if_neg h5,if_pos h6]
  rw[he];exact commit8_over h hA hc h1 h2 hG hcb hcs sp rj h4 qO h6
 ·have he:commitR x cs=(putS (ckS x) cs,0):=by unfold commitR;rw[if_neg h1,if_neg h2',if_neg h3,if_neg h4',if_neg h5,if_neg h6]
  rw[he];exact commit8_ck h hA hc h1 h2 hG hcb hcs sp rj h4 qO (by have:=hG.ep;omega)
theorem same8_any{A M:Nat→Prop}{w:World}{sv tv:Value}{dg:Nat}{x:Ss}(hs:Sto dg M w sv x)(hG:GoodX x)(h:TRs A w tv x):
  Calls Tryz.prog 16 #[sv,tv] w fun e w'=>e= .returned (.bool true)∧Below w.heap.size w w':=by
 obtain⟨aS,nS,cS,aL,nL,cL,cw,cf,f,lf,aR,nR,cR,rfl,hT0,eX⟩:=h;obtain⟨W1,hW1⟩:∃W1,W1=w.alloc (Obj.cells #[.slice aS nS cS,.slice aL nL cL,.int .i64 cw,.int .i64 cf,.bool f,.int .i64 lf,.slice aR nR cR,.int .i64 (x.ep:Int),.int .i64 (x.ar:Int),.int .i64 (x.us:Int),.int .i64 (x.fr:Int)] 42):=⟨_,rfl⟩
 have ai:Below w.heap.size w W1:=by rw[hW1];exact(Below.refl _ _).alloc (Nat.le_refl _) _
 have hb1:Dv.Blk W1 w.heap.size 42 #[.slice aS nS cS,.slice aL nL cL,.int .i64 cw,.int .i64 cf,.bool f,.int .i64 lf,.slice aR nR cR,.int .i64 (x.ep:Int),.int .i64 (x.ar:Int),.int .i64 (x.us:Int),.int .i64 (x.fr:Int)]:=by rw[hW1];exact heap_alloc_new w _
 have hrows:=fun(X:World) (hX:Below W1.heap.size W1 X)=>rowsS_any ((hs.below ai).below hX) (by have:=(rows_few_ hG).2;omega) (fun r hr=>by have:=rows_val hG r hr;omega)
 have ag:=fun(X:World) (hX:Below W1.heap.size W1 X)=>used_any ((hs.below ai).below hX)
 have fi:=fun(X:World) (hX:Below W1.heap.size W1 X)=>epoch_any ((hs.below ai).below hX)
 obtain⟨g,pq⟩:∃g,sv= .pointer (some ⟨g,0,none⟩):=by
  obtain⟨D,R,g,rv,h1,_⟩:=hs;exact⟨g,h1⟩
 subst pq;have jQ:=qH hrows;have bZ:=qH ag;have rE:=qH fi;have aD:=qH hb1;have aw:=qH ai;have dM:=qH hW1;have bQ:=qH (eX.below ai);have hlen:=(rows_few_ hG).2;clear hs hG hT0 eX hrows ag fi hb1 ai hW1;go_enter Tryz.func16,Tryz.ntmps16;go_wp2_with fail
 rw[←dM.out];go_wp2_with fail
 refine wp_region_held_drew (S:=SB [W1]) (by kernel_rfl) (SB.start _) (fun hHeld=>?_);refine tkC 0 ?_;refine tkC 2 ?_;refine tkA 3 (v:=?_) ?_ ?_;rotate_left
 ·intro W hSw;have hq:=((SB.b0 hSw).cell (p:=⟨w.heap.size,6,none⟩) aD.out.lt).trans (aD.out.cell 6);simp at hq;go_simp;try (with_reducible rfl)
 try simp only[Act.put,zA,zB,zC]
 refine rdA (rs:= [1]) ?_;refine arC (fun K hK=>?_);go_simp;refine(jQ.out _ (SB.b0 hHeld)).mono ?_;rintro e w2⟨rv,rfl,aH,bg⟩;have ct:=qH aH;obtain⟨Ar,cr,rfl⟩:=or_shape aH;clear aH;try (go_wp2_with fail)
 have ac:=SB.step hHeld bg;refine hK.out _ _ ?_ (fun _=>?_)
 ·exact ac
 clear hK K;try simp only[Act.put,zA,zB,zC]
 have hHeld:=SB.more ac;clear ac;refine wpAnyH_more (S':=SB [w2,W1]) (fun W h=>SB.less W h) _ _ _ _ ?_;refine rdA (rs:= [4]) ?_;refine arC (fun K hK=>?_);go_simp;refine(sameRows_any _ _ x.rows _ ct.out.rr (bQ.out.below ((SB.b1 hHeld))).rr).mono ?_;rintro e w3⟨rfl,GL⟩;have aX:Below w2.heap.size w2 w3:=by obtain⟨m,rfl⟩:=GL;exact⟨rfl,rfl,rfl,Nat.le_refl _,fun _ _=>rfl⟩
 clear GL;try (go_wp2_with fail)
 have ac:=SB.step hHeld aX;refine hK.out _ _ ?_ (fun _=>?_)
 ·exact ac
 clear hK K;try simp only[Act.put,zA,zB,zC]
 have hHeld:=SB.more ac;clear ac;refine wpAnyH_more (S':=SB [w3,w2,W1]) (fun W h=>SB.less W h) _ _ _ _ ?_;refine tkC 5 ?_;refine tkC 6 ?_;refine tkC 8 ?_;refine tkA 9 (v:=?_) ?_ ?_;rotate_left
 ·intro W hSw;have hq:=((SB.b2 hSw).cell (p:=⟨w.heap.size,9,none⟩) aD.out.lt).trans (aD.out.cell 9);simp at hq;go_simp;try (with_reducible rfl)
 try simp only[Act.put,zA,zB,zC]
 refine rdA (rs:= [7]) ?_;refine arC (fun K hK=>?_);go_simp;refine(bZ.out _ (SB.b2 hHeld)).mono ?_;rintro e wq⟨rfl,rfl⟩;try (go_wp2_with fail)
 refine hK.out _ _ ?_ (fun _=>?_)
 ·exact hHeld
 clear hK K;try simp only[Act.put,zA,zB,zC]
 refine tkC 10 ?_;refine tkC 11 ?_;refine tkC 12 ?_;refine tkC 13 ?_;refine tkC 15 ?_;refine tkA 16 (v:=?_) ?_ ?_;rotate_left
 ·intro W hSw;have hq:=((SB.b2 hSw).cell (p:=⟨w.heap.size,7,none⟩) aD.out.lt).trans (aD.out.cell 7);simp at hq;go_simp;try (with_reducible rfl)
 try simp only[Act.put,zA,zB,zC]
 refine rdA (rs:= [14]) ?_;refine arC (fun K hK=>?_);go_simp;refine(rE.out _ (SB.b2 hHeld)).mono ?_;rintro e wq⟨rfl,rfl⟩;try (go_wp2_with fail)
 refine hK.out _ _ ?_ (fun _=>?_)
 ·exact hHeld
 clear hK K;try simp only[Act.put,zA,zB,zC]
 refine tkC 17 ?_;refine tkC 18 ?_;refine tkC 19 ?_;refine wpAnyH_done (by kernel_rfl) ?_ _;have fP:=qH (SB.b2 hHeld);clear hHeld;go_wp2;go_ret;exact⟨rfl,aw.out.trans (fP.out.mono aw.out.size)⟩
def pagesR(s:Sim)(F k:Nat):List (List UInt8):=(List.range k).map fun i=>(secsL s (F+i*4) 4).flatten
theorem pagesR_succ(s:Sim)(F k:Nat):pagesR s F (k+1)=pagesR s F k++ [(secsL s (F+k*4) 4).flatten]:=by
 unfold pagesR;rw[List.range_succ,List.map_append];rfl
theorem pagesR_len(s:Sim)(F k:Nat):(pagesR s F k).length=k:=by simp[pagesR]
theorem secs_flat{s:Sim}(hok:OK s):∀(n a:Nat),a+n≤s.firm.length→(secsL s a n).flatten.length=64*n
 |0,a,_=>rfl
 |n+1,a,h=>by
  rw[secsL_succ,List.flatten_append,List.length_append,secs_flat hok n a (by omega)];have:=hok.read (i:=a+n) (by omega);simp[this];omega
theorem secs_add(s:Sim)(a m:Nat):∀n,secsL s a (m+n)=secsL s a m++secsL s (a+m) n
 |0=>by simp[secsL]
 |n+1=>by rw[←Nat.add_assoc,secsL_succ,secs_add s a m n,secsL_succ,List.append_assoc,Nat.add_assoc]
theorem pagesR_flat(s:Sim)(F:Nat):∀k,(pagesR s F k).flatten=(secsL s F (k*4)).flatten
 |0=>rfl
 |k+1=>by rw[pagesR_succ,List.flatten_append,pagesR_flat s F k,show(k+1)*4=k*4+4 by omega,secs_add,List.flatten_append];simp
theorem pagesR_all{s:Sim}(hok:OK s){F k:Nat}(h:F+k*4≤s.firm.length):pagesR s F k=chunkL256 (secsL s F (k*4)).flatten:=by
 rw[←pagesR_flat,chunk256_pages];intro p hp;unfold pagesR at hp;obtain⟨i,hi,rfl⟩:=List.mem_map.1 hp;rw[List.mem_range] at hi;rw[secs_flat hok 4 _ (by omega)]
theorem secs_cut(s:Sim)(a:Nat){k n:Nat}(h:k<n):(secsL s a n).getD k []=s.read (a+k):=by
 unfold secsL;rw[List.getD_eq_getElem?_getD,List.getElem?_map,List.getElem?_range h];rfl
theorem rows8_any{A:Nat→Prop}{w:World}{tv:Value}{s:Sim}(ar pg:Nat)(h:TRd A w tv s)(hok:OK s)(hn:64≤s.firm.length)(har:ar≤1)(ia:pg≤aN s.firm.length):
  Calls Tryz.prog 54 #[tv,.int .i64 (ar:Int),.int .i64 (pg:Int)] w (GivesRwI w (rowsT (laidL s ar pg))):=by
 have HN:=hok.n;have ha:=aN_le s.firm.length;obtain⟨aS,cS,aL,cL,cw,cf,f,lf,rfl⟩:=h.six_;obtain⟨W1,hW1⟩:∃W1,W1=(w.alloc (Obj.cells #[.slice aS s.firm.length cS,.slice aL s.loose.length cL,.int .i64 cw,.int .i64 cf,.bool f,.int .i64 lf] 29)):=⟨_,rfl⟩
 have ai:Below w.heap.size w W1:=by rw[hW1];exact(Below.refl _ _).alloc (Nat.le_refl _) _
 have hk1:Dv.Blk W1 w.heap.size 29 #[.slice aS s.firm.length cS,.slice aL s.loose.length cL,.int .i64 cw,.int .i64 cf,.bool f,.int .i64 lf]:=by rw[hW1];exact heap_alloc_new w _
 obtain⟨n,hne⟩:∃n,n=s.firm.length:=⟨_,rfl⟩
 have hbg:=fun(k:Nat) (hk:k≤600) (X:World)=>begin8_any n ar k (by omega) har (by omega) X
 have vC:=firstN_le (n:=n) (area:=ar) (k:=pg) (by omega) har (by rw[hne];exact ia);have hlaid:laidL s ar pg=pagesR s (firstN n ar) pg:=by unfold laidL;rw[←hne,pagesR_all hok (by rw[←hne];exact vC)]
 obtain⟨F,hF⟩:∃F,F=firstN n ar:=⟨_,rfl⟩
 rw[←hF] at hbg vC hlaid;rw[hlaid];have lU:=fun(X:World) (hX:Below W1.heap.size W1 X) (k:Nat) (hk:k<pg)=>secs8_any (w:=X) (F+k*4) 4 ((h.below ai).below hX) hok (by rw[←hne];omega)
 have KO:pg≤600:=by omega
 have fe:∀k,k<pg→∀i,i<4→(s.read (F+k*4+i)).length=64:=fun k hk i hi=>hok.read (by rw[←hne];omega)
 rw[←hne] at hk1 lU;have jP:=qH lU;have EA:=qH hbg;have aD:=qH hk1;have aw:=qH ai;rw[←hne] at hW1;have dM:=qH hW1;have dC:=qH fe;have dt:n≤4096:=by omega
 rw[←hne];clear h hok hn HN ha ai hk1 hbg hF vC hlaid lU fe ia hW1 hne;go_enter Tryz.func54,Tryz.ntmps54;go_wp2;rw[←dM.out]
 go_loopw [8,9] (fun lv i wr=>∃k:Nat,k≤pg∧i= .int .i64 k∧OP 5 46 wr W1.heap.size lv (pagesR s F k)∧Below W1.heap.size W1 wr) (fun _ i _=>pg-(intOf i).toNat)
 case atStart=>exact⟨0,Nat.zero_le _,rfl,OP.nil_ _ _ _ _,Below.refl _ _⟩
 case round=>
  obtain⟨k,hk,rfl,hop,ad⟩:=hrel;obtain⟨A0,c0,rfl,_,_⟩:=hop.shape;rw[pagesR_len] at hop⊢;have bU:=qH hop;have aF:=qH ad;clear hop ad;by_cases hlt:k<pg
  ·have hlt':(k:Int)<(pg:Int):=by omega
   have mc:=qH (fun X=>EA.out k (by omega) X);have qT:=qH (fun X (hX:Below W1.heap.size W1 X)=>jP.out X hX k hlt);have lQ:=qH (dC.out k hlt);obtain⟨F4,xJ⟩:∃F4,F4=F+k*4:=⟨_,rfl⟩
   have hps:=pagesR_succ s F k;rw[←xJ] at mc qT lQ hps;have pH:=qH hps;obtain⟨w0,hw0⟩:∃w0,w0=wr:=⟨_,rfl⟩
   rw[←hw0] at bU aF⊢;clear hw0 xJ hps;go_wp2_with fail
   refine wp_region_held_drew (S:=SB [w0]) (by kernel_rfl) (SB.start _) (fun hHeld=>?_);refine tkA 0 (v:=?_) ?_ ?_;rotate_left
   ·intro W hSw;have hkb:=aD.out.below (aF.out.trans (((SB.b0 hSw)).mono aF.out.size)) aD.out.lt;have z0:=hkb.cell 0;have z1:=hkb.cell 1;have z2:=hkb.cell 2;have z3:=hkb.cell 3;have z4:=hkb.cell 4;have z5:=hkb.cell 5;simp at z0 z1 z2 z3 z4 z5;go_simp;try (with_reducible rfl)
   try simp only[Act.put,zA,zB,zC]
   refine tkC 1 ?_;refine tkA 2 (v:=?_) ?_ ?_;rotate_left
   ·intro W hSw;have hkb:=aD.out.below (aF.out.trans (((SB.b0 hSw)).mono aF.out.size)) aD.out.lt;have z0:=hkb.cell 0;simp at z0;go_simp;try (with_reducible rfl)
   try simp only[Act.put,zA,zB,zC]
   refine tkC 3 ?_;refine tkC 4 ?_;refine tkC 5 ?_;refine rdA (rs:= [6]) ?_;refine arC (fun K hK=>?_);go_simp;refine(mc.out _).mono ?_;rintro e wq⟨rfl,rfl⟩;try (go_wp2_with fail)
   refine hK.out _ _ ?_ (fun _=>?_)
   ·exact hHeld
   clear hK K;try simp only[Act.put,zA,zB,zC]
   refine rdA (rs:= [7]) ?_;refine arC (fun K hK=>?_);go_simp;refine(qT.out _ (aF.out.trans (((SB.b0 hHeld)).mono aF.out.size))).mono ?_;rintro e w5⟨sv,rfl,eu,iE⟩;obtain⟨As,MZ,pq,hs1,hs2,_⟩:=id eu;rw[secsL_len] at pq hs1;unfold maxLen at hs2;subst pq;have ze:=qH eu;clear eu;try (go_wp2_with fail)
   have ac:=SB.step hHeld iE;refine hK.out _ _ ?_ (fun _=>?_)
   ·exact ac
   clear hK K;try simp only[Act.put,zA,zB,zC]
   have hHeld:=SB.more ac;clear ac;refine wpAnyH_more (S':=SB [w5,w0]) (fun W h=>SB.less W h) _ _ _ _ ?_;refine tkC 8 ?_;refine wpAnyH_done (by kernel_rfl) ?_ _;have ay:=qH (aF.out.trans ((SB.b1 hHeld).mono aF.out.size));have AF:=qH (bU.out.below (SB.b1 hHeld));clear hHeld;go_wp2_with fail
   go_loopw [10,12] (fun bv i wr=>∃j:Nat,j≤4∧i= .int .i64 j∧wr.ownsRow w5.heap.size 5 1 bv (64*j) (bvs (secsL s F4 j).flatten)∧Below w5.heap.size w5 wr) (fun _ i _=>4-(intOf i).toNat)
   case atStart=>exact⟨0,Nat.zero_le _,rfl,World.ownsRow_nil _ _ _ _,Below.refl _ _⟩
   case round=>
    obtain⟨j,hj,rfl,hown,ad⟩:=hrel;obtain⟨Ab,cb,rfl,_⟩:=own_shape hown;have HOW:=qH hown;have es:=qH ad;by_cases kh:j<4
    ·obtain⟨bS,oS,u,rfl,DF,hu,bi⟩:=rp_at (rp_below ze.out ad (Nat.le_refl _)) (k:=j) (by rw[secsL_len];exact kh)
     have hsj:=secs_cut s F4 (k:=j) (n:=4) kh;rw[List.getD_eq_getElem?_getD,List.getElem?_eq_getElem (by rw[secsL_len];exact kh)] at hsj;simp only[Option.getD_some] at hsj;rw[hsj] at bi;have ck:=lQ.out j kh;have hsc:=secsL_succ s F4 j;obtain⟨l,hl⟩:∃l,l=s.read (F4+j):=⟨_,rfl⟩
     rw[←hl] at bi ck hsc;have hfl:(secsL s F4 (j+1)).flatten=(secsL s F4 j).flatten++l:=by rw[hsc,List.flatten_append];simp
     have hsrc:=bi.src (tx:=46) Tryz.underlying46;obtain⟨Au,cu,ag⟩:=rb_shape bi;rw[ck] at ag hsrc;subst ag;have cH:=qH hsrc;have iX:=qH hfl;have q1:(0:Int)≤(j:Int):=by omega
     have q2:(j:Int)<4:=by omega
     clear hown ad bi hsrc hfl hsc hsj hl ck DF;go_wp2_with (at_builtin;refine wpList_own rfl (.tmp 32) (.tmp 36) 46 46 rfl w5.heap.size 5 (.int .u8 0) 1 1 Tryz.underlying46 info5 rfl rfl HOW.out rfl cH.out es.out (Nat.le_refl _) ?_ ?_ ?_ ?_)
     ·unfold maxLen;omega
     ·omega
     ·exact es.out.size
     intro v6 w6 dE au _;rw[←bvs_append,←iX.out,show 64*j+64=64*(j+1) by omega] at dE;have j9:=qH dE;have aG:=qH au;clear dE au hu;go_wp2;go_roundw
     case rel=>exact⟨j+1,by omega,by go_num,j9.out,aG.out⟩
     case measure=>simp[intOf];omega
    ·have Fz:j=4:=by omega
     subst Fz;clear hown ad;have hfl:(secsL s F4 4).flatten.length=256:=by
      have h0:=lQ.out 0 (by omega);have h1:=lQ.out 1 (by omega);have h2:=lQ.out 2 (by omega);have h3:=lQ.out 3 (by omega);show((s.read (F4+0))++((s.read (F4+1))++((s.read (F4+2))++((s.read (F4+3))++ [])))).length=256;simp only[List.length_append,List.length_nil];omega
     have bq:FB 5 wr w5.heap.size (.slice Ab (64*4) cb) (secsL s F4 4).flatten:=FB.own (l:=(secsL s F4 4).flatten) (by rw[hfl];exact HOW.out);obtain⟨us,ag,ho0,ew⟩:=AF.out.below es.out;have au:=(Below.refl wr.heap.size wr).alloc (Nat.le_refl _) (Obj.cells #[.slice Ab (64*4) cb] 46);have hbb:Below W1.heap.size W1 wr:=ay.out.trans (es.out.mono ay.out.size);have dn:=qH (hbb.trans (au.mono hbb.size));have dr:=(bq.base_ (base':=W1.heap.size) ay.out.size).below au;have oA:OP 5 46 (wr.alloc (Obj.cells #[.slice Ab (64*4) cb] 46)) W1.heap.size (.slice A0 k c0) (pagesR s F k):=(AF.out.below es.out).below au;obtain⟨us,ag,ho,hf⟩:=oA;have bt:=qH (show us.length=k by have h:=congrArg List.length ag;rw[List.length_map,pagesR_len] at h;exact h);rw[bt.out] at ho;have HO:=qH ho;have HF:=qH hf;have bZ:=qH ag;have fo:=qH dr;have jo:=qH (src_one wr Tryz.underlying26 46 (.slice Ab (64*4) cb) rfl);clear ho hf ag bq dr au hbb ho0 ew hfl;go_wp2_with (at_builtin;refine wpList_own rfl (.tmp 38) (.tmp 40) 26 26 rfl W1.heap.size 46 (.slice none 0 0) 1 24 Tryz.underlying26 info46 rfl rfl HO.out rfl jo.out dn.out (Nat.le_refl _) ?_ ?_ ?_ ?_)
     ·unfold maxLen;omega
     ·omega
     ·exact dn.out.size
     intro v7 w7 mB bR pd;have hrf:=OP.push (e:=5) (eP:=46) (by decide) (by rw[bt.out];exact HO.out) HF.out fo.out (by rw[bt.out];exact mB) pd;rw[bZ.out,←pH.out] at hrf;have iR:=qH hrf;have bJ:=qH bR;clear mB pd hrf bR;go_wp2;go_roundw
     case rel=>exact⟨k+1,by omega,by go_num,iR.out,bJ.out⟩
     case measure=>simp[intOf];omega
  ·have hkk:k=pg:=by omega
   subst hkk;have hcall:=refRows8_any _ _ wr bU.out.rp (by rw[pagesR_len];omega);obtain⟨r,hr⟩:∃r,r=rowsT (pagesR s F k):=⟨_,rfl⟩
   rw[←hr] at hcall;obtain⟨rl,re⟩:=r;have HR:=qH hr;have HC:=qH hcall;clear hcall hr;go_wp2_with fail
   refine HC.out.mono ?_;rintro e w5⟨v,rfl,ho,hb⟩;obtain⟨A5,c5,rfl⟩:=or_shape ho;have HO:=qH ((ho.base_ aF.out.size).base_ aw.out.size);have HB:=qH ((aw.out.trans (aF.out.mono aw.out.size)).trans (hb.mono (Nat.le_trans aw.out.size aF.out.size)));clear ho hb;go_wp2
   go_ret2
   rw[←HR.out];exact⟨_,rfl,HO.out,HB.out⟩
def GivesO8(A:Nat→Prop)(w:World)(r:Nat×Ss)(e:Ending)(w':World):Prop:=∃ma,e= .returned (.tuple #[ma,.int .i64 (r.1:Int)])∧(∃aS nS cS aL nL cL cw cf f lf aR nR cR i0 i1 i2 i3,ma= .agg #[.slice aS nS cS,.slice aL nL cL,.int .i64 cw,.int .i64 cf,.bool f,.int .i64 lf,.slice aR nR cR,.int .i64 i0,.int .i64 i1,.int .i64 i2,.int .i64 i3])∧Below w.heap.size w w'∧(r.1=0→TRs A w' ma r.2)
theorem GivesO8.no{A:Nat→Prop}{w w':World}{r:Nat×Ss}{n:Nat}{aS aL aR:Option Addr}{nS cS nL cL nR cR:Nat}{cw cf lf i0 i1 i2 i3:Int}{f:Bool}(h:r.1=n)(h0:n≠0)(hb:Below w.heap.size w w'):GivesO8 A w r (.returned (.tuple #[.agg #[.slice aS nS cS,.slice aL nL cL,.int .i64 cw,.int .i64 cf,.bool f,.int .i64 lf,.slice aR nR cR,.int .i64 i0,.int .i64 i1,.int .i64 i2,.int .i64 i3],.int .i64 (n:Int)])) w':=by
 subst h;exact⟨_,rfl,⟨_,_,_,_,_,_,_,_,_,_,_,_,_,_,_,_,_,rfl⟩,hb,fun h=>absurd h h0⟩
theorem open8_any{A:Nat→Prop}{w:World}{tv:Value}{s:Sim}(h:TRd A w tv s)(hok:OK s)(hA:∀k,A k→k<w.heap.size)(hn:64≤s.firm.length)(hlo:s.loose.length≤8000):
  Calls Tryz.prog 15 #[tv] w (GivesO8 A w (openR s)):=by
 have HN:=hok.n;have cG:=newK_good s;obtain⟨K,hK⟩:∃K,newK s 2=K:=⟨_,rfl⟩
 have cT:openR s=openR s:=rfl
 conv at cT=>{rhs;unfold openR}
 rw[hK] at cT cG;obtain⟨ep,ar,pg⟩:=K;simp only[] at cT cG;obtain⟨aS,nS,cS,aL,nL,cL,cw,cf,f,lf,rfl⟩:=h.sixn;obtain⟨W1,hW1⟩:∃W1,W1=((w.alloc (Obj.cells #[.slice aS nS cS,.slice aL nL cL,.int .i64 cw,.int .i64 cf,.bool f,.int .i64 lf] 29)).alloc (Obj.cells #[.slice none 0 0,.slice none 0 0,.int .i64 0,.int .i64 0,.bool false,.int .i64 0,.slice none 0 0,.int .i64 0,.int .i64 0,.int .i64 0,.int .i64 0] 42)):=⟨_,rfl⟩
 have ai:Below w.heap.size w W1:=by rw[hW1];exact below2 w _ _
 have hs1:W1.heap.size=w.heap.size+2:=by rw[hW1];simp
 have hb1:Dv.Blk W1 w.heap.size 29 #[.slice aS nS cS,.slice aL nL cL,.int .i64 cw,.int .i64 cf,.bool f,.int .i64 lf]:=by rw[hW1];exact heap_alloc2_old w _ _
 have hb2:Dv.Blk W1 (w.heap.size+1) 42 #[.slice none 0 0,.slice none 0 0,.int .i64 0,.int .i64 0,.bool false,.int .i64 0,.slice none 0 0,.int .i64 0,.int .i64 0,.int .i64 0,.int .i64 0]:=by rw[hW1];exact heap_alloc2_new w _ _
 have hT:TRd (Up A w.heap.size (w.heap.size+2)) W1 (.agg #[.slice aS nS cS,.slice aL nL cL,.int .i64 cw,.int .i64 cf,.bool f,.int .i64 lf]) s:=h.up_ ai (Nat.le_refl _);have cy:∀k,Up A w.heap.size (w.heap.size+2) k→k<W1.heap.size:=up_lt hA (by omega) ai.size;obtain⟨n,hne⟩:∃n,n=s.firm.length:=⟨_,rfl⟩
 have jV:nS=n:=by
  obtain⟨vS,vL,Cd,Ky,Lg,h1,h2,_⟩:=h;obtain⟨a',c',h3,_⟩:=h2.shape;rw[h3] at h1;injection h1 with h1;have h5:=congrArg (fun z:Array Value=>z[0]?) h1;simp at h5;rw[hne];exact h5.2.1
 have ak:=fun X=>layout8_any (n:Int) (by omega) (by omega) X
 rw[layJ_nat,layA_nat] at ak;obtain⟨M,hM⟩:∃M,M=aN n:=⟨_,rfl⟩
 obtain⟨J,hJ⟩:∃J,J=jN n:=⟨_,rfl⟩
 have Ct:=aN_le n;have Eg:=aN_pos (n:=n) (by omega);rw[←hM,←hJ] at ak Ct Eg;have qg:=found8_any hT hok hn;rw[hK] at qg;simp only[] at qg;obtain⟨RT,py⟩:∃RT,RT=rowsT (laidL s ar pg):=⟨_,rfl⟩
 obtain⟨FS,lu⟩:∃FS,FS=readS (ep:Int) (secsL s 2 J):=⟨_,rfl⟩
 rw[←hne,←hJ,←py,←lu] at cT;rw[←hne,←hM] at cG;have hrows:=fun(X:World) (hX:Below W1.heap.size W1 X) (ha:ar≤1) (hp:pg≤aN s.firm.length)=>rows8_any ar pg (hT.below hX) hok hn ha hp
 rw[←py,←hne,←hM] at hrows;have qQ:=fun(X:World) (hX:Below W1.heap.size W1 X)=>secs8_any 2 J (hT.below hX) hok (by rw[←hne];omega)
 have mi:=readS_few (ep:Int) (secsL s 2 J);rw[←lu,secsL_len] at mi;have hrg:RT.2=0→Sorted RT.1∧RT.1.length≤5000∧∀r∈RT.1,r.2.length≤150:=fun he=>by
  have:=rowsT_good (ps:=laidL s ar pg) (by rw[←py];exact he);rw[←py] at this;exact this
 obtain⟨R,hR⟩:∃R,R=openR s:=⟨_,rfl⟩
 rw[←hR] at cT⊢;have oD:=fun(X:World) (hX:Below W1.heap.size W1 X) (lv:Value) (rs:List Rw) (ps:List (List UInt8)) (hr:RR X lv rs) (hps:buildL rs=some ps) (hf:ps.length≤aN s.firm.length) (he:ep+1≤1073741824)=>lay8_any (ep+1) (1-ar) (hT.below hX) hok (fun q hq=>Nat.lt_of_lt_of_le (cy q hq) hX.size) hr hps (built_256 hps) hn hf (by omega) he (by omega)
 rw[←hne,←hM] at oD;have aZ:=qH ak;have ER:=qH qg;have jQ:=qH hrows;have wG:=qH qQ;have zV:=qH oD;have og:=qH cG;have J8:=qH hrg;have fh:=qH cT;have sh:=qH mi;have fN:=qH lu;have aw:=qH ai;have ga:=qH cy;have aD:=qH hb1;have bo:=qH hb2;have jy:=qH hs1;have dM:=qH hW1;have Cn:=qH hM;have fO:=qH hne;subst jV;have lg:¬(nS:Int)<64:=by omega
 have dt:nS≤4096:=by omega
 clear h hok hA hn hlo HN ai hs1 hb1 hb2 hT cy ak qg hrows qQ oD cG hrg cT mi lu py hR hK hW1 hM hJ hne;obtain⟨g1,hg1⟩:∃g1,g1=w.heap.size:=⟨_,rfl⟩
 obtain⟨g2,hg2⟩:∃g2,g2=w.heap.size+1:=⟨_,rfl⟩
 rw[←hg1] at aD ga;rw[←hg2] at bo;have zv:=qH hg1;have HG2:=qH hg2;clear hg1 hg2;go_enter Tryz.func15,Tryz.ntmps15;go_wp2_with fail
 rw[←dM.out,←HG2.out,←zv.out];refine ER.out.mono ?_;rintro e w1⟨rfl,hb1⟩;have al:=qH hb1;clear hb1;by_cases h0:ep=0
 ·have hR:R.1=11:=by rw[fh.out,if_pos h0]
  have nO:=qH hR;subst h0;clear hR;simp only[Nat.lt_irrefl,decide_false];have ao:=aD.out.below (al.out) aD.out.lt;obtain⟨z0,z1,z2,z3,z4,z5⟩:=cl6 ao;clear ao;have cY:=qH (bo.out.below (al.out) bo.out.lt);have bQ:=qH (nO.out);go_wp2_with (first|(refine wpList_store_row rfl 42 (.tmp 2) (.tmp 36) rfl g2 #[.slice aS nS cS,.slice aL nL cL,.int .i64 cw,.int .i64 cf,.bool f,.int .i64 lf,.slice none 0 0,.int .i64 0,.int .i64 0,.int .i64 0,.int .i64 0] rfl rfl 42 #[.slice none 0 0,.slice none 0 0,.int .i64 0,.int .i64 0,.bool false,.int .i64 0,.slice none 0 0,.int .i64 0,.int .i64 0,.int .i64 0,.int .i64 0] cY.out (elv42 _ _ _ _ _ _ _ _ _ _ _) rfl (all11 _ _ _ _ _ _ _ _ _ _ _ _ _ _ _ _ _) ?_)|(refine bodyPost_ret (v:= .tuple #[.agg #[.slice aS nS cS,.slice aL nL cL,.int .i64 cw,.int .i64 cf,.bool f,.int .i64 lf,.slice none 0 0,.int .i64 0,.int .i64 0,.int .i64 0,.int .i64 0],.int .i64 11]) (leaveO8 rfl rfl (row_blk cY.out _)) rfl (GivesO8.no bQ.out (by decide) (aw.out.trans (((Fr.of_below (D:=fun q=>q=g2) (al.out)).trans (row_fr w1 g2 _) (fun q hq=> .inl hq)).below (fun q hq=>by have:=HG2.out;omega) aw.out.size)))))
 have hpos:0<ep:=by omega
 obtain⟨k1,k2,k3,k4⟩:=og.out hpos;rw[decide_eq_true hpos];have ao:=aD.out.below (al.out) aD.out.lt;obtain⟨z0,z1,z2,z3,z4,z5⟩:=cl6 ao;clear ao;go_wp2_with fail
 refine(jQ.out _ al.out k2 k4).mono ?_;rintro e w3⟨lv,rfl,aH,hb3⟩;obtain⟨Ar,cr,rfl⟩:=or_shape aH;have aj:=qH (al.out.trans (hb3.mono al.out.size));have CB:=qH (or_rrd (A:=Up A g1 (g1+2)) aH (fun q hq=>Nat.lt_of_lt_of_le (ga.out q hq) al.out.size));clear aH hb3 z0 z1 z2 z3 z4 z5;by_cases he:RT.2=0
 rotate_left
 ·have hR:R.1=RT.2:=by rw[fh.out,if_neg h0,if_pos he]
  have nO:=qH hR;have HE:=qH he;have he':((RT.2:Int) !=0)=true:=by rw[bne_iff_ne];omega
  clear hR he h0 k1 k2 k3 k4;have ao:=aD.out.below (aj.out) aD.out.lt;obtain⟨z0,z1,z2,z3,z4,z5⟩:=cl6 ao;clear ao;have cY:=qH (bo.out.below (aj.out) bo.out.lt);have bQ:=qH (nO.out);go_wp2_with (first|(refine wpList_store_row rfl 42 (.tmp 2) (.tmp 47) rfl g2 #[.slice aS nS cS,.slice aL nL cL,.int .i64 cw,.int .i64 cf,.bool f,.int .i64 lf,.slice none 0 0,.int .i64 0,.int .i64 0,.int .i64 0,.int .i64 0] rfl rfl 42 #[.slice none 0 0,.slice none 0 0,.int .i64 0,.int .i64 0,.bool false,.int .i64 0,.slice none 0 0,.int .i64 0,.int .i64 0,.int .i64 0,.int .i64 0] cY.out (elv42 _ _ _ _ _ _ _ _ _ _ _) rfl (all11 _ _ _ _ _ _ _ _ _ _ _ _ _ _ _ _ _) ?_)|(refine bodyPost_ret (v:= .tuple #[.agg #[.slice aS nS cS,.slice aL nL cL,.int .i64 cw,.int .i64 cf,.bool f,.int .i64 lf,.slice none 0 0,.int .i64 0,.int .i64 0,.int .i64 0,.int .i64 0],.int .i64 (RT.2:Int)]) (leaveO8 rfl rfl (row_blk cY.out _)) rfl (GivesO8.no bQ.out HE.out (aw.out.trans (((Fr.of_below (D:=fun q=>q=g2) (aj.out)).trans (row_fr w3 g2 _) (fun q hq=> .inl hq)).below (fun q hq=>by have:=HG2.out;omega) aw.out.size)))))
 have hrl:=(J8.out he).2.1;have HE:=qH he;rw[he];clear he;have ao:=aD.out.below (aj.out) aD.out.lt;obtain⟨z0,z1,z2,z3,z4,z5⟩:=cl6 ao;clear ao;go_wp2_with (go_at_call 30;refine(aZ.out _).mono ?_;rintro e wq ⟨rfl,rfl⟩)
 refine(wG.out _ aj.out).mono ?_;rintro e w4⟨sv,rfl,eu,hb4⟩;obtain⟨As,vV,pq,_⟩:=id eu;rw[secsL_len] at pq;subst pq;have fe:=refRead_any (ep:Int) _ _ w4 eu (by rw[secsL_len];omega);rw[←fN.out] at fe;have dC:=qH fe;have ah:=qH (aj.out.trans (hb4.mono aj.out.size));have FJ:=qH (CB.out.below hb4);clear eu hb4 fe z0 z1 z2 z3 z4 z5;go_wp2_with fail
 refine dC.out.mono ?_;rintro e w5⟨fv,rfl,hof,aq⟩;obtain⟨Af,fj,rfl,_,_⟩:=hof.shape;have ay:=qH (ah.out.trans (aq.mono ah.out.size));have b8:=qH (hof.base_ ah.out.size);have FH:=qH (FJ.out.below aq);clear hof aq;go_wp2_with fail
 go_loopw [8,14] (fun lx i wr=>∃k:Nat,k≤FS.1.length∧i= .int .i64 k∧RRd (Up A g1 (g1+2)) wr lx (applyL RT.1 (FS.1.take k).flatten)∧Below w5.heap.size w5 wr) (fun _ i _=>FS.1.length-(intOf i).toNat)
 case atStart=>exact⟨0,Nat.zero_le _,rfl,FH.out,Below.refl _ _⟩
 case round=>
  obtain⟨k,hk,rfl,iM,ad⟩:=hrel;obtain⟨Al,cl,rfl,hsh⟩:=RVP.shape iM;clear hsh;have bQ:=qH iM;have es:=qH ad;by_cases hlt:k<FS.1.length
  ·obtain⟨g,u,_,hgl,⟨cg,bA⟩,hu,dz⟩:=of_at (b8.out.below ad) hlt
   have hcs:(FS.1[k]).length≤300000:=by
    have h1:(FS.1[k]).length≤FS.1.flatten.length:=(List.sublist_flatten_of_mem (List.getElem_mem hlt)).length_le;have:=sh.out.1;omega
   have htl:(FS.1.take k).flatten.length≤300000:=by
    have h1:(FS.1.take k).flatten.length≤FS.1.flatten.length:=by
     conv=>{rhs;rw[←List.take_append_drop k FS.1,List.flatten_append,List.length_append]}
     omega
    have:=sh.out.1;omega
   have hal:=applyL_len RT.1 (FS.1.take k).flatten;have hcall:=refApplyD_any _ _ _ _ wr (fun q hq=>Nat.lt_of_lt_of_le (ga.out q hq) (Nat.le_trans ay.out.size ad.size)) iM (oc_crd dz ga.out) (by omega);have hst:applyL (applyL RT.1 (FS.1.take k).flatten) FS.1[k]=applyL RT.1 (FS.1.take (k+1)).flatten:=by
    rw[List.take_succ_eq_append_getElem hlt,List.flatten_append,List.flatten_singleton,applyL_append]
   rw[hst] at hcall;have HC:=qH hcall;injection bA with e1 e2 e3;subst e1;subst e3;obtain⟨Au,cu,ag,_⟩:=id dz.rc;obtain⟨nu,nM⟩:∃nu,nu=FS.1[k].length:=⟨_,rfl⟩
   rw[←nM] at ag;subst ag;have HU:=qH hu;rw[Nat.zero_add] at hu;have q1:(0:Int)≤(k:Int):=by omega
   have q2:(k:Int)<FS.1.length:=by omega
   clear iM ad dz hcs htl hal hcall hst nM e2;go_wp2_with fail
   refine HC.out.mono ?_;rintro e w6⟨v6,rfl,jw,au⟩;obtain⟨A6,c6,rfl,hsh⟩:=RVP.shape jw;clear hsh;have tH:=qH jw;have aG:=qH (es.out.trans (au.mono es.out.size));clear jw au hu;go_wp2;go_roundw
   case rel=>exact⟨k+1,by omega,by go_num,tH.out,aG.out⟩
   case measure=>simp[intOf];omega
  ·have hkk:k=FS.1.length:=by omega
   subst hkk;rw[List.take_length] at iM bQ⊢;have hbb:=ay.out.trans (ad.mono ay.out.size);have lW:=refBuild_any _ _ wr (RRd.rr iM);obtain⟨L2,hL2⟩:∃L2,L2=applyL RT.1 FS.1.flatten:=⟨_,rfl⟩
   rw[←hL2] at lW bQ⊢;have qa:R=if fitB nS L2=false then (21,noS s) else if ep=1073741824 then (32,noS s) else (0,ckS ⟨s,L2,ep,ar,0,0⟩):=by rw[fh.out,if_neg h0,if_neg (by rw[HE.out];simp),←hL2]
   have iG:=qH qa;have bX:=qH hbb;have dd:=qH lW;clear iM ad hbb lW hL2 qa
   cases hbl:buildL L2 with
   |none=>
    rw[hbl] at dd;have hR:R.1=21:=by rw[iG.out,if_pos (by unfold fitB;rw[hbl])]
    have nO:=qH hR;clear hR hbl;go_wp2_with fail
    refine dd.out.mono ?_;rintro e w6⟨pv,rfl,hop,au⟩;obtain⟨Ap,cp,rfl,bI,bO⟩:=hop.shape;clear bI bO;have aG:=qH (bX.out.trans (au.mono bX.out.size));simp only[Option.isSome];clear hop au;have ao:=aD.out.below (aG.out) aD.out.lt;obtain⟨z0,z1,z2,z3,z4,z5⟩:=cl6 ao;clear ao;have cY:=qH (bo.out.below (aG.out) bo.out.lt);have bQ:=qH (nO.out);go_wp2_with (first|(go_at_call 30;refine(aZ.out _).mono ?_;rintro e wq ⟨rfl,rfl⟩)|(refine wpList_store_row rfl 42 (.tmp 2) (.tmp 97) rfl g2 #[.slice aS nS cS,.slice aL nL cL,.int .i64 cw,.int .i64 cf,.bool f,.int .i64 lf,.slice none 0 0,.int .i64 0,.int .i64 0,.int .i64 0,.int .i64 0] rfl rfl 42 #[.slice none 0 0,.slice none 0 0,.int .i64 0,.int .i64 0,.bool false,.int .i64 0,.slice none 0 0,.int .i64 0,.int .i64 0,.int .i64 0,.int .i64 0] cY.out (elv42 _ _ _ _ _ _ _ _ _ _ _) rfl (all11 _ _ _ _ _ _ _ _ _ _ _ _ _ _ _ _ _) ?_)|(refine bodyPost_ret (v:= .tuple #[.agg #[.slice aS nS cS,.slice aL nL cL,.int .i64 cw,.int .i64 cf,.bool f,.int .i64 lf,.slice none 0 0,.int .i64 0,.int .i64 0,.int .i64 0,.int .i64 0],.int .i64 21]) (leaveO8 rfl rfl (row_blk cY.out _)) rfl (GivesO8.no bQ.out (by decide) (aw.out.trans (((Fr.of_below (D:=fun q=>q=g2) (aG.out)).trans (row_fr w6 g2 _) (fun q hq=> .inl hq)).below (fun q hq=>by have:=HG2.out;omega) aw.out.size)))))
   |some ps=>
    rw[hbl] at dd;have oE:fitB nS L2=decide (ps.length≤M):=by unfold fitB;rw[hbl,Cn.out]
    have Dx:=qH oE;have fI:=qH hbl;clear oE hbl;go_wp2_with fail
    refine dd.out.mono ?_;rintro e w6⟨pv,rfl,hop,au⟩;obtain⟨Ap,cp,rfl,bI,bO⟩:=hop.shape;clear bI bO;have aG:=qH (bX.out.trans (au.mono bX.out.size));have Ai:=qH (bQ.out.below au);simp only[Option.isSome,Option.getD_some];clear hop au;by_cases hf:ps.length≤M
    rotate_left
    ·have hR:R.1=21:=by rw[iG.out,if_pos (by rw[Dx.out,decide_eq_false_iff_not];exact hf)]
     have nO:=qH hR;have hgt:(M:Int)<(ps.length:Int):=by omega
     clear hR hf;have ao:=aD.out.below (aG.out) aD.out.lt;obtain⟨z0,z1,z2,z3,z4,z5⟩:=cl6 ao;clear ao;have cY:=qH (bo.out.below (aG.out) bo.out.lt);have bQ:=qH (nO.out);go_wp2_with (first|(go_at_call 30;refine(aZ.out _).mono ?_;rintro e wq ⟨rfl,rfl⟩)|(refine wpList_store_row rfl 42 (.tmp 2) (.tmp 97) rfl g2 #[.slice aS nS cS,.slice aL nL cL,.int .i64 cw,.int .i64 cf,.bool f,.int .i64 lf,.slice none 0 0,.int .i64 0,.int .i64 0,.int .i64 0,.int .i64 0] rfl rfl 42 #[.slice none 0 0,.slice none 0 0,.int .i64 0,.int .i64 0,.bool false,.int .i64 0,.slice none 0 0,.int .i64 0,.int .i64 0,.int .i64 0,.int .i64 0] cY.out (elv42 _ _ _ _ _ _ _ _ _ _ _) rfl (all11 _ _ _ _ _ _ _ _ _ _ _ _ _ _ _ _ _) ?_)|(refine bodyPost_ret (v:= .tuple #[.agg #[.slice aS nS cS,.slice aL nL cL,.int .i64 cw,.int .i64 cf,.bool f,.int .i64 lf,.slice none 0 0,.int .i64 0,.int .i64 0,.int .i64 0,.int .i64 0],.int .i64 21]) (leaveO8 rfl rfl (row_blk cY.out _)) rfl (GivesO8.no bQ.out (by decide) (aw.out.trans (((Fr.of_below (D:=fun q=>q=g2) (aG.out)).trans (row_fr w6 g2 _) (fun q hq=> .inl hq)).below (fun q hq=>by have:=HG2.out;omega) aw.out.size)))))
    have Lo:(ps.length:Int)≤(M:Int):=by omega
    by_cases hmax:ep=1073741824
    ·have hR:R.1=32:=by rw[iG.out,if_neg (by rw[Dx.out,decide_eq_true hf];simp),if_pos hmax]
     have nO:=qH hR;clear hR hf Ct Eg hrl k1 k2 k3 k4 hpos h0 hk hlt dt;obtain⟨q,hq⟩:∃q:Int,q=((ep:Nat):Int):=⟨_,rfl⟩
     have hq2:q=1073741824:=by omega
     rw[←hq];clear hq hmax;subst hq2;have ao:=aD.out.below (aG.out) aD.out.lt;obtain⟨z0,z1,z2,z3,z4,z5⟩:=cl6 ao;clear ao;have cY:=qH (bo.out.below (aG.out) bo.out.lt);have bQ:=qH (nO.out);go_wp2_with (first|(go_at_call 30;refine(aZ.out _).mono ?_;rintro e wq ⟨rfl,rfl⟩)|(refine wpList_store_row rfl 42 (.tmp 2) (.tmp 101) rfl g2 #[.slice aS nS cS,.slice aL nL cL,.int .i64 cw,.int .i64 cf,.bool f,.int .i64 lf,.slice none 0 0,.int .i64 0,.int .i64 0,.int .i64 0,.int .i64 0] rfl rfl 42 #[.slice none 0 0,.slice none 0 0,.int .i64 0,.int .i64 0,.bool false,.int .i64 0,.slice none 0 0,.int .i64 0,.int .i64 0,.int .i64 0,.int .i64 0] cY.out (elv42 _ _ _ _ _ _ _ _ _ _ _) rfl (all11 _ _ _ _ _ _ _ _ _ _ _ _ _ _ _ _ _) ?_)|(refine bodyPost_ret (v:= .tuple #[.agg #[.slice aS nS cS,.slice aL nL cL,.int .i64 cw,.int .i64 cf,.bool f,.int .i64 lf,.slice none 0 0,.int .i64 0,.int .i64 0,.int .i64 0,.int .i64 0],.int .i64 32]) (leaveO8 rfl rfl (row_blk cY.out _)) rfl (GivesO8.no bQ.out (by decide) (aw.out.trans (((Fr.of_below (D:=fun q=>q=g2) (aG.out)).trans (row_fr w6 g2 _) (fun q hq=> .inl hq)).below (fun q hq=>by have:=HG2.out;omega) aw.out.size)))))
    have hmx:((ep:Int)==1073741824)=false:=by rw[beq_eq_false_iff_ne];omega
    have hR:R=(0,ckS ⟨s,L2,ep,ar,0,0⟩):=by rw[iG.out,if_neg (by rw[Dx.out,decide_eq_true hf];simp),if_neg hmax]
    have nO:=qH hR;have rd:=zV.out w6 aG.out _ L2 ps Ai.out.rr fI.out hf (by omega);obtain⟨lD,kK⟩:∃a,a=1-ar:=⟨_,rfl⟩
    rw[←kK] at rd;have sF:(1:Int)-(ar:Int)=(lD:Int):=by omega
    rw[show((ep+1:Nat):Int)=(ep:Int)+1 by omega] at rd;have CK:=qH rd;have Iz:=qH kK;have L6:=qH sF;clear hR rd kK hf Ct Eg hrl k2 k3 k4 hpos h0 hk hlt dt hmax;have ao:=aD.out.below (aG.out) aD.out.lt;obtain⟨z0,z1,z2,z3,z4,z5⟩:=cl6 ao;clear ao;go_wp2_with (go_at_call 30;refine(aZ.out _).mono ?_;rintro e wq ⟨rfl,rfl⟩)
    refine CK.out.mono ?_;rintro e w7⟨EX,rfl,jx,bR⟩;obtain⟨gd,fY,fZ,fX,gh,fQ,fT,fV,f7,lf7,rfl⟩:=jx.sixn;have tb:=qH jx;have bJ:=qH (aG.out.trans (bR.mono aG.out.size));have tC:=qH (Ai.out.below bR);clear jx bR z0 z1 z2 z3 z4 z5;have cY:=qH ((bo.out.below bJ.out bo.out.lt).alloc (Obj.cells #[.slice gd fY fZ,.slice fX gh fQ,.int .i64 fT,.int .i64 fV,.bool f7,.int .i64 lf7] 29));have eE:=qH (((Fr.refl (fun j=>j=g2) w7).alloc (Obj.cells #[.slice gd fY fZ,.slice fX gh fQ,.int .i64 fT,.int .i64 fV,.bool f7,.int .i64 lf7] 29)).trans (row_fr (w7.alloc (Obj.cells #[.slice gd fY fZ,.slice fX gh fQ,.int .i64 fT,.int .i64 fV,.bool f7,.int .i64 lf7] 29)) g2 #[.slice gd fY fZ,.slice fX gh fQ,.int .i64 fT,.int .i64 fV,.bool f7,.int .i64 lf7,.slice Al L2.length cl,.int .i64 ((ep:Int)+1),.int .i64 (lD:Int),.int .i64 0,.int .i64 0]) (fun q hq=> .inl hq));go_wp2_with (first|(refine wpList_store_row rfl 42 (.tmp 2) (.tmp 118) rfl g2 #[.slice gd fY fZ,.slice fX gh fQ,.int .i64 fT,.int .i64 fV,.bool f7,.int .i64 lf7,.slice Al L2.length cl,.int .i64 ((ep:Int)+1),.int .i64 (lD:Int),.int .i64 0,.int .i64 0] rfl rfl 42 #[.slice none 0 0,.slice none 0 0,.int .i64 0,.int .i64 0,.bool false,.int .i64 0,.slice none 0 0,.int .i64 0,.int .i64 0,.int .i64 0,.int .i64 0] cY.out (elv42 _ _ _ _ _ _ _ _ _ _ _) rfl (all11 _ _ _ _ _ _ _ _ _ _ _ _ _ _ _ _ _) ?_)|(refine bodyPost_ret (v:= .tuple #[.agg #[.slice gd fY fZ,.slice fX gh fQ,.int .i64 fT,.int .i64 fV,.bool f7,.int .i64 lf7,.slice Al L2.length cl,.int .i64 ((ep:Int)+1),.int .i64 (lD:Int),.int .i64 0,.int .i64 0],.int .i64 0]) (leaveO8 rfl rfl (row_blk cY.out _)) rfl ?_))
    rw[nO.out];refine⟨_,rfl,⟨_,_,_,_,_,_,_,_,_,_,_,_,_,_,_,_,_,rfl⟩,aw.out.trans (((Fr.of_below (D:=fun q=>q=g2) bJ.out).trans eE.out (fun q hq=> .inl hq)).below (fun q hq=>by have:=HG2.out;omega) aw.out.size),fun _=>⟨gd,fY,fZ,fX,gh,fQ,fT,fV,f7,lf7,Al,L2.length,cl,?_,?_,?_⟩⟩
    ·show Value.agg #[.slice gd fY fZ,.slice fX gh fQ,.int .i64 fT,.int .i64 fV,.bool f7,.int .i64 lf7,.slice Al L2.length cl,.int .i64 ((ep:Int)+1),.int .i64 (lD:Int),.int .i64 0,.int .i64 0]=Value.agg #[.slice gd fY fZ,.slice fX gh fQ,.int .i64 fT,.int .i64 fV,.bool f7,.int .i64 lf7,.slice Al L2.length cl,.int .i64 ((ep+1:Nat):Int),.int .i64 ((1-ar:Nat):Int),.int .i64 ((0:Nat):Int),.int .i64 ((0:Nat):Int)]
     rw[←Iz.out];rfl
    ·show TRd A _ _ (layS s (ep+1) (1-ar) ((buildL L2).getD []))
     rw[←Iz.out,fI.out];have hG:=zv.out;have J5:=HG2.out;exact(tb.out.st eE.out (fun q hq=>by omega)).down_
    ·have hG:=zv.out
     have J5:=HG2.out;exact(tC.out.st eE.out (fun q hq=>by omega)).down_
def OwnX(P:Nat→Prop)(B:Nat)(w:World)(v:Value)(s:Sim):Prop:=∃D:Nat→Prop,Dev D w v s∧(∀k,D k→B≤k∧¬P k)∧B≤w.heap.size∧∀k,P k→k<w.heap.size
def OwnSX(P:Nat→Prop)(B dg:Nat)(w:World)(sv:Value)(x:Ss):Prop:=∃M:Nat→Prop,Sto dg M w sv x∧(∀k,M k→B≤k∧¬P k)∧B≤w.heap.size∧∀k,P k→k<w.heap.size
structure Stay (P:Nat→Prop) (B:Nat) (w w':World):Prop where
 bel:Below B w w'
 same:∀k,P k→w'.heap[k]? =w.heap[k]?
def Duo(P:Nat→Prop)(B T dg:Nat)(w:World)(sv:Value)(x:Ss)(tv:Value)(y:Ss):Prop:=
 ∃M:Nat→Prop,Sto dg M w sv x∧(∀k,M k→B≤k∧¬P k∧k<T)∧B≤T∧T≤w.heap.size∧(∀k,P k→B≤k∧k<T)∧TRs (fun k=>M k∨P k) w tv y
section
variable {P P' D:Nat→Prop} {B T dg b:Nat} {w w' w0:World} {sv tv:Value} {x y:Ss}
theorem Duo.lt(h:Duo P B T dg w sv x tv y):∀k,P k→B≤k∧k<T:=by obtain⟨M,_,_,_,_,h5,_⟩:=h;exact h5
theorem Duo.shape(h:Duo P B T dg w sv x tv y):∃aS nS cS aL nL cL cw cf f lf aR nR cR,tv= .agg #[.slice aS nS cS,.slice aL nL cL,.int .i64 cw,.int .i64 cf,.bool f,.int .i64 lf,.slice aR nR cR,.int .i64 (y.ep:Int),.int .i64 (y.ar:Int),.int .i64 (y.us:Int),.int .i64 (y.fr:Int)]:=by
 obtain⟨M,_,_,_,_,_,aS,nS,cS,aL,nL,cL,cw,cf,f,lf,aR,nR,cR,h1,_⟩:=h;exact⟨aS,nS,cS,aL,nL,cL,cw,cf,f,lf,aR,nR,cR,h1⟩
theorem Duo.below(h:Duo P B T dg w sv x tv y)(hb:Below w.heap.size w w'):Duo P B T dg w' sv x tv y:=by
 obtain⟨M,h1,h2,h3,h4,h5,h6⟩:=h;exact⟨M,h1.below hb,h2,h3,Nat.le_trans h4 hb.size,h5,h6.below hb⟩
theorem Duo.fr(h:Duo P B T dg w sv x tv y)(hf:Fr D w w')(hD:∀k,D k→P k):Duo P B T dg w' sv x tv y:=by
 obtain⟨M,h1,h2,h3,h4,h5,h6⟩:=h;exact⟨M,h1.fr hf (fun k hk hm=>(h2 k hm).2.1 (hD k hk)),h2,h3,Nat.le_trans h4 hf.size,h5,h6.fr hf (fun k hk=> .inr (hD k hk)) (fun _ h=> .inl h)⟩
theorem duo_ref{lv:Value}{cs:List Chg}(h:Duo P B T dg w sv x tv y)(hT:T≤b)(hG:GoodX y)(hc:OC 5 76 w b lv cs)(hcn:cs.length≤5000)(hcs:sizesC cs≤90000):
  Calls Tryz.prog 24 #[tv,lv] w fun e w'=>∃ma,e= .returned (.tuple #[ma,.int .i64 ((commitR y cs).2:Int)])∧Duo P B T dg w' sv x ma (commitR y cs).1∧Below w.heap.size w w':=by
 obtain⟨M,h1,h2,h3,h4,h5,h6⟩:=h;have Iq:∀k,(M k∨P k)→k<T:=fun k hk=>by rcases hk with hk|hk;exact(h2 k hk).2.2;exact(h5 k hk).2
 obtain⟨q1,q2⟩:=chgsB_few cs hcs;refine(commit8_any (A:=fun k=>M k∨P k) h6 (fun k hk=>Nat.lt_of_lt_of_le (Iq k hk) h4) (oc_crd hc (fun k hk=>Nat.lt_of_lt_of_le (Iq k hk) hT)) hG (by omega) (by omega)).mono ?_;rintro e w'⟨ma,he,ht,hb⟩;exact⟨ma,he,⟨M,h1.below hb,h2,h3,Nat.le_trans h4 hb.size,h5,ht⟩,hb⟩
theorem duo_prog{lv:Value}{cs:List Chg}(h:Duo P B T dg w sv x tv y)(hT:T≤b)(hG:GoodX x)(hc:OC 5 76 w b lv cs)(hcn:cs.length≤5000)(hcs:sizesC cs≤90000):
  Calls Tryz.prog 25 #[sv,lv] w fun e w'=>e= .returned (.int .u16 ((commitR x cs).2:Int))∧Duo P B w'.heap.size dg w' sv (commitR x cs).1 tv y∧Below B w w'∧∀k,P k→w'.heap[k]? =w.heap[k]? :=by
 obtain⟨M,h1,h2,h3,h4,h5,h6⟩:=h;obtain⟨q1,q2⟩:=chgsB_few cs hcs;refine(commit_any h1 hG (oc_co hc (fun k hk=>Nat.lt_of_lt_of_le (h2 k hk).2.2 hT)) (by omega) (by omega) q2).mono ?_;rintro e w'⟨he,M',g1,g2,g3⟩;have hs:=g2.size;have f6:∀k,P k→k<w.heap.size:=fun k hk=>Nat.lt_of_lt_of_le (h5 k hk).2 h4
 refine⟨he,⟨M',g1,fun k hk=>?_,Nat.le_trans (Nat.le_trans h3 h4) hs,Nat.le_refl _,fun k hk=>⟨(h5 k hk).1,Nat.lt_of_lt_of_le (f6 k hk) hs⟩,h6.fr g2 (fun k hk=> .inl hk) (fun k hk=>?_)⟩,g2.below (fun k hk=>(h2 k hk).1) (Nat.le_trans h3 h4),fun k hk=>g2.block k (f6 k hk) (fun hm=>(h2 k hm).2.1 hk)⟩
 ·rcases g3 k hk with h|h
  ·exact⟨(h2 k h).1,(h2 k h).2.1,g1.lt k hk⟩
  ·exact⟨Nat.le_trans (Nat.le_trans h3 h4) h,fun hp=>by have:=f6 k hp;omega,g1.lt k hk⟩
 ·rcases hk with hk|hk
  ·rcases g3 k hk with h|h
   ·exact .inl (.inl h)
   ·exact .inr h
  ·exact .inl (.inr hk)
end
def cOf(l:List UInt8):List Chg:=(rowsAt l (nrows l 6)).map chgOf
theorem cOf_few(l:List UInt8):(cOf l).length≤6∧sizesC (cOf l)≤1200∧readChgs (chgsL (cOf l))=(cOf l,0):=by
 have h1:(cOf l).length≤6:=by unfold cOf;rw[List.length_map,rowsAt_length];exact nrows_le l 6
 refine⟨h1,?_,readChgs_back _ (by omega) (madeC_short l _)⟩;have:=madeC_sizes l (nrows l 6);have h2:=nrows_le l 6;unfold cOf;omega
theorem size_open(k:Nat):openR (formatS (Sim.new (sizeN k)))=(0,openedS (Sim.new (sizeN k)))∧InvS (openedS (Sim.new (sizeN k)))∧(openedS (Sim.new (sizeN k))).d.fuse=none∧(openedS (Sim.new (sizeN k))).n=sizeN k∧(formatS (Sim.new (sizeN k))).loose= []∧64≤(formatS (Sim.new (sizeN k))).firm.length:=by
 obtain⟨h1,h2⟩:=sizeN_in k;have h:=open_format (s:=Sim.new (sizeN k)) (OK.new (by omega)) rfl rfl (by rw[new_firm];exact h1);rw[new_firm] at h;exact h
theorem putS_fuse{x:Ss}{cs:List Chg}(h:x.d.fuse=none):(putS x cs).d.fuse=none:=flush_fuse (writeL_fuse h _ _ _)
theorem ckS_fuse{x:Ss}(h:x.d.fuse=none):(ckS x).d.fuse=none:=layS_fuse h _ _ _
theorem commit_fuse{x:Ss}(cs:List Chg)(h:x.d.fuse=none):(commitR x cs).1.d.fuse=none:=by
 unfold commitR;split
 ·exact h
 ·split
  ·exact h
  ·split
   ·exact h
   ·split
    ·exact h
    ·split
     ·exact putS_fuse h
     ·split
      ·exact h
      ·exact putS_fuse (ckS_fuse h)
theorem lay_pos(n:Int):0≤layJ n:=by
 unfold layJ;split
 ·exact Int.le_refl _
 ·rw[Int.tdiv_eq_ediv_of_nonneg (by omega)];omega
theorem good_ck{x:Ss}(hG:GoodX x)(he:x.ep<1073741824):GoodX (ckS x):=by
 obtain⟨ps,hps,hpl⟩:=hG.fit;have aY:=built_256 hps;have hA:=aN_le x.n;have hm:x.n≤4096:=hG.ok.n;have hlo:=hG.lo;have har:=hG.ar;have hd:(ckS x).d=layS x.d (x.ep+1) (1-x.ar) ps:=by unfold ckS;rw[hps];rfl
 have ci:=hG.calm;have im:(ckS x).d.loose.length≤8000:=by
  rw[hd];by_cases hg:x.d.goes=true
  ·have:=layS_loose x.d (x.ep+1) (1-x.ar) ps aY
   rw[ci hg] at this;simp only[List.length_nil] at this;have hx:aN x.n≤512:=by have:=hG.n;omega
   omega
  ·rw[layS_dead (by simpa using hg)]
   exact hlo
 refine⟨by rw[ck_n];exact hG.n,by rw[hd];exact ok_layS hG.ok _ _ aY (by omega),⟨ps,hps,by rw[ck_n];exact hpl⟩,by show x.ep+1≤_;omega,by show 1-x.ar≤1;omega,Nat.zero_le _,Nat.le_refl _,im,fun hg=>?_⟩;rw[hd] at hg⊢;exact layS_calm hg
theorem decR_small(p:List UInt8):(decR p).2.2≤12:=by
 unfold decR;split
 ·exact(by decide:11≤12)
 split
 ·exact(by decide:12≤12)
 split
 ·exact(by decide:11≤12)
 split
 ·exact Nat.zero_le _
 ·exact(by decide:11≤12)
theorem rowsR_small:∀(ps:List (List UInt8)) (acc:List Rw),(rowsFT ps acc).2≤12:=by
 intro ps
 induction ps with
 |nil=>intro acc;exact Nat.zero_le _
 |cons p ps ih=>
  intro acc;rw[rowsFT];split
  ·exact decR_small p
  ·exact ih _
theorem rowsT_small(ps:List (List UInt8)):(rowsT ps).2≤12:=by
 unfold rowsT;split
 ·exact rowsR_small _ _
 ·split
  ·exact Nat.zero_le _
  ·exact(by decide:11≤12)
theorem openR_alt(s:Sim):∃(K:Nat×Nat×Nat) (T:List Rw×Nat) (rs:List Rw),K=newK s 2∧T.2≤12∧
  openR s=(if K.1=0 then (11,noS s) else if T.2≠0 then (T.2,noS s) else if fitB s.firm.length rs=false then (21,noS s) else if K.1=1073741824 then (32,noS s) else (0,ckS ⟨s,rs,K.1,K.2.1,0,0⟩)):=
 ⟨_,_,_,rfl,rowsT_small (laidL s (newK s 2).2.1 (newK s 2).2.2),rfl⟩
theorem openR_both(s:Sim):(openR s).1≤32∧(OK s→64≤s.firm.length→s.loose.length≤8000→(s.goes=true→s.loose= [])→(openR s).1=0→GoodX (openR s).2):=by
 obtain⟨K,T,rs,hK,hT,he⟩:=openR_alt s;have cG:=newK_good s;rw[←hK] at cG;clear hK;rw[he];clear he;by_cases h0:K.1=0
 ·rw[if_pos h0];exact⟨show(11:Nat)≤32 by decide,fun _ _ _ _ h=>by cases h⟩
 rw[if_neg h0];by_cases h1:T.2≠0
 ·rw[if_pos h1];exact⟨Nat.le_trans hT (by decide),fun _ _ _ _ h=>absurd h h1⟩
 rw[if_neg h1];by_cases h2:fitB s.firm.length rs=false
 ·rw[if_pos h2];exact⟨show(21:Nat)≤32 by decide,fun _ _ _ _ h=>by cases h⟩
 rw[if_neg h2];by_cases h3:K.1=1073741824
 ·rw[if_pos h3];exact⟨show(32:Nat)≤32 by decide,fun _ _ _ _ h=>by cases h⟩
 rw[if_neg h3];refine⟨Nat.zero_le _,fun hok hn hlo ci _=>?_⟩;obtain⟨a1,a2,_,_⟩:=cG (by omega);have hlt:K.1<1073741824:=by omega
 refine good_ck ⟨hn,hok,?_,a1,a2,Nat.zero_le _,Nat.le_refl _,hlo,ci⟩ hlt;have h2':fitB s.firm.length rs=true:=by simpa using h2
 unfold fitB at h2';split at h2'
 ·rename_i ps e
  exact⟨ps,e,of_decide_eq_true h2'⟩
 ·cases h2'
end Go.Proofs.YtmbkaedhllfoeaaGreat
