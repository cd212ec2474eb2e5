/-
  Texts of the proof, put together.
-/
import Derived.Test.YtmbkaedhllfoeaaGreatKPEJ
import Derived.Test.YtmbkaedhllfoeaaGreatKPWr
set_option maxRecDepth 100000
set_option maxHeartbeats 4000000
set_option linter.unusedVariables false
set_option linter.unusedVariables false
namespace Go.Proofs.YtmbkaedhllfoeaaGreat
open Go.RowKit Go.Rst Go.Dv Go.Crc Go.Str Go.Pg
theorem commit8_over{A:Nat→Prop}{w:World}{tv lv:Value}{x:Ss}{cs:List Chg}(h:TRs A w tv x)(hA:∀k,A k→k<w.heap.size)(hc:CRd A w lv cs)(hne:cs≠ [])(hl:cs.any longC=false)(hG:GoodX x)(hcb:(chgsB cs).length≤100000000)(hcs:cs.length≤100000)(hp2:(partsL (x.ep:Int) (x.fr:Int) cs).2=true)(hpj:(partsL (x.ep:Int) (x.fr:Int) cs).1.length≤jN x.n)(hft:fitB x.n (applyL x.rows cs)=true)(hroom:jN x.n<x.us+(partsL (x.ep:Int) (x.fr:Int) cs).1.length)(hov:x.ep=1073741824):
  Calls Tryz.prog 24 #[tv,lv] w (GivesT8 A w x 32):=by
 obtain⟨aS,nS,cS,aL,nL,cL,cw,cf,f,lf,aR,nR,cR,rfl,hT0,eW⟩:=h;obtain⟨W1,hW1⟩:∃W1,W1=((w.alloc (Obj.cells #[.slice aS nS cS,.slice aL nL cL,.int .i64 cw,.int .i64 cf,.bool f,.int .i64 lf,.slice aR nR cR,.int .i64 (x.ep:Int),.int .i64 (x.ar:Int),.int .i64 (x.us:Int),.int .i64 (x.fr:Int)] 42)).alloc (Obj.cells #[.slice none 0 0,.slice none 0 0,.int .i64 0,.int .i64 0,.bool false,.int .i64 0,.slice none 0 0,.int .i64 0,.int .i64 0,.int .i64 0,.int .i64 0] 42)):=⟨_,rfl⟩
 have aj:Below w.heap.size w W1:=by rw[hW1];exact below2 w _ _
 have hs1:W1.heap.size=w.heap.size+2:=by rw[hW1];simp
 have hb1:Dv.Blk W1 w.heap.size 42 #[.slice aS nS cS,.slice aL nL cL,.int .i64 cw,.int .i64 cf,.bool f,.int .i64 lf,.slice aR nR cR,.int .i64 (x.ep:Int),.int .i64 (x.ar:Int),.int .i64 (x.us:Int),.int .i64 (x.fr:Int)]:=by rw[hW1];exact heap_alloc2_old w _ _
 have hb2:Dv.Blk W1 (w.heap.size+1) 42 #[.slice none 0 0,.slice none 0 0,.int .i64 0,.int .i64 0,.bool false,.int .i64 0,.slice none 0 0,.int .i64 0,.int .i64 0,.int .i64 0,.int .i64 0]:=by rw[hW1];exact heap_alloc2_new w _ _
 have hT:TRd (Up A w.heap.size (w.heap.size+2)) W1 (.agg #[.slice aS nS cS,.slice aL nL cL,.int .i64 cw,.int .i64 cf,.bool f,.int .i64 lf]) x.d:=hT0.up_ aj (Nat.le_refl _);have du:RRd (Up A w.heap.size (w.heap.size+2)) W1 (.slice aR nR cR) x.rows:=eW.up_ aj (Nat.le_refl _);have cE:∀k,Up A w.heap.size (w.heap.size+2) k→k<W1.heap.size:=up_lt hA (by omega) aj.size;have ia:=qH (trs_mk hT du);have hcr:∀X,Below W1.heap.size W1 X→RC X lv cs:=fun X hX=>rc_below (rc_below hc.rc aj (Nat.le_refl _)) hX (by have:=aj.size;omega)
 obtain⟨aC,cC,hlv,zw,hcm⟩:=rc_shape hc.rc;subst hlv;have aD:=qH hb1;have bw:=qH hb2;have aw:=qH aj;have dU:=qH hW1;have qW:=qH hcr;have fN:=qH cE;have iy:=fun(X:World) (hX:Below W1.heap.size W1 X)=>fun k (hk:Up A w.heap.size (w.heap.size+2) k)=>Nat.lt_of_lt_of_le (cE k hk) hX.size
 have jK:=qH iy;have jx:=hT.len_;have hn:=hG.n;have di:x.n≤4096:=hG.ok.n;have kQ:x.d.firm.length≤4096:=hG.ok.n;have hn':64≤x.d.firm.length:=hG.n;have fg:=hG.ep;have har:=hG.ar;have ah:=hG.us;have ay:=hG.fr;have eC:=(rows_few_ hG).2;have se:x.us≤1024:=by have:=jN_le x.n;omega
 obtain⟨J,hJ⟩:∃J,J=jN nS:=⟨_,rfl⟩
 obtain⟨M,hM⟩:∃M,M=aN nS:=⟨_,rfl⟩
 have Cc:J≤1024:=by rw[hJ,jx];have:=jN_le x.d.firm.length;omega
 have al:=fun X=>layout8_any (nS:Int) (by omega) (by omega) X
 rw[layJ_nat,layA_nat,←hM,←hJ] at al;have bh:=qH al;have HL:=qH (long8_any _ cs W1 (hcr _ (Below.refl _ _)));rw[hl] at HL;obtain⟨L2,hL2⟩:∃L2,L2=applyL x.rows cs:=⟨_,rfl⟩
 have hap:=fun(X:World) (hX:Below W1.heap.size W1 X)=>refApplyD_any _ _ _ _ X (iy X hX) (du.below hX) (show CRd (Up A w.heap.size (w.heap.size+2)) X (.slice aC cs.length cC) cs from(CVP.below (P':=RAd (Up A w.heap.size (w.heap.size+2)) W1) hc aj (fun _ _ h=>h.fr (D:=fun _=>False) (Fr.of_below aj) (fun _ h=>h.elim) (up_new (Nat.le_refl _)))).below' hX) (by omega)
 rw[←hL2] at hap;have eA:=qH hap;have nQ:=qH hL2;have HJ:=qH hJ;have sq:=qH hM;have lz:=qH jx;have su:=qH hG;have rI:=qH hT;have hpt:=fun(X:World) (hX:Below W1.heap.size W1 X)=>refParts_any (x.ep:Int) (x.fr:Int) _ cs X (hcr X hX) hcb (by omega)
 obtain⟨⟨P1,P2⟩,bF⟩:∃PL,PL=partsL (x.ep:Int) (x.fr:Int) cs:=⟨_,rfl⟩
 rw[←bF] at hpt;have j6:=qH hpt;have cW:=qH bF;have Cw:P1.length≤200:=by have:=parts_len (x.ep:Int) (x.fr:Int) cs;rw[←bF] at this;exact this
 have hcw:∀X,Below w.heap.size w X→RC X (.slice aC cs.length cC) cs:=fun X hX=>rc_below hc.rc hX (Nat.le_refl _)
 have Bn:=qH hcw;clear hcw;have hcl:(0:Int)<(cs.length:Int):=by have:=List.length_pos_iff.2 hne;omega
 have gZ:((cs.length:Int)==0)=false:=by rw[beq_eq_false_iff_ne];omega
 clear hpt bF hap hL2 hJ hM al hG jx hn di kQ hn' ah eC;clear hA hc aj hs1 hb1 hb2 cE hW1 hT0 eW hcr iy hT du;obtain⟨g2,hg2⟩:∃g2,g2=w.heap.size:=⟨_,rfl⟩
 obtain⟨g4,hg4⟩:∃g4,g4=w.heap.size+1:=⟨_,rfl⟩
 rw[←hg4] at bw;rw[←hg2] at aD ia fN jK eA rI;have ci:=qH hg4;have HG2:=qH hg2;clear hg4 hg2;go_enter Tryz.func24,Tryz.ntmps24;have FO:(J:Int)<(x.us:Int)+(P1.length:Int):=by
  have e:=cW.out;have h2:J<x.us+P1.length:=by rw[HJ.out,lz.out];rw[←e] at hroom;exact hroom
  omega
 have oZ:=qH hov;clear hroom hov;have gC:P2=true:=by have e:=cW.out;rw[←e] at hp2;exact hp2
 subst gC;have GJ:(P1.length:Int)≤(J:Int):=by
  have e:=cW.out;have h2:P1.length≤J:=by rw[HJ.out,lz.out];rw[←e] at hpj;exact hpj
  omega
 obtain⟨ps,hbl,nY⟩:∃ps,buildL L2=some ps∧ps.length≤M:=by
  rw[nQ.out,sq.out,lz.out];unfold fitB at hft;split at hft
  ·rename_i ps e
   exact⟨ps,e,of_decide_eq_true hft⟩
  ·cases hft
 have hle:(ps.length:Int)≤(M:Int):=by omega
 clear hp2 hpj hft nY;go_wp2_with fail
 rw[←dU.out,←ci.out,←HG2.out];refine HL.out.mono ?_;rintro e w1⟨rfl,hb1⟩;have an:=qH hb1;have af:=aD.out.below hb1 aD.out.lt;have zl:=af.lt;obtain⟨z0,z1,z2,z3,z4,z5,z6,z7,z8,z9,aX⟩:=cl11 af;clear af hb1;go_wp2_with fail
 refine(eA.out _ an.out).mono ?_;rintro e w2⟨v2,rfl,hr2,hb2⟩;obtain⟨A2,c2,rfl,hsh⟩:=RVP.shape hr2;have cM:=qH hr2;have ae:=qH (an.out.trans (hb2.mono an.out.size));have cZ:=qH (refBuild_any _ _ w2 hr2.rr);have af:=aD.out.below ae.out aD.out.lt;have zl:=af.lt;obtain⟨z0,z1,z2,z3,z4,z5,z6,z7,z8,z9,aX⟩:=cl11 af;clear af hb2 hr2 hsh;go_wp2_with (go_at_call 30;refine(bh.out _).mono ?_;rintro e wq ⟨rfl,rfl⟩)
 rw[hbl] at cZ;refine cZ.out.mono ?_;rintro e w3⟨pv,rfl,hop,hb3⟩;have ak:=qH (ae.out.trans (hb3.mono ae.out.size));have bO:=qH (cM.out.below hb3);have af:=aD.out.below ak.out aD.out.lt;have zl:=af.lt;obtain⟨z0,z1,z2,z3,z4,z5,z6,z7,z8,z9,aX⟩:=cl11 af;clear af hb3;obtain⟨Ap,cp,rfl,bN,bT⟩:=hop.shape;simp only[Option.isSome,Option.getD_some];clear bN bT hop;go_wp2_with fail
 refine(j6.out _ ak.out).mono ?_;rintro e w4⟨sv,rfl,hop,hb4⟩;obtain⟨As,yC,rfl,bN,bT⟩:=hop.shape;have ai:=qH (ak.out.trans (hb4.mono ak.out.size));have iS:=qH (bO.out.below hb4);clear bN bT hop hb4;have af:=aD.out.below ai.out aD.out.lt;have zl:=af.lt;obtain⟨z0,z1,z2,z3,z4,z5,z6,z7,z8,z9,aX⟩:=cl11 af;clear af;have zd:=ck8_over (ia.out.below ai.out) (jK.out _ ai.out) oZ.out;have Ex:=qH zd;clear zd;go_wp2_with fail
 refine Ex.out.mono ?_;rintro e w5⟨uA,rfl,fR,au⟩;obtain⟨fM,fF,ft,fK,fL,fD,fI,fh,f5,lf5,oA,oF,oH,rfl,_,_⟩:=id fR;have ax:=qH (ai.out.trans (au.mono ai.out.size));have af:=aD.out.below ax.out aD.out.lt;have zl:=af.lt;obtain⟨z0,z1,z2,z3,z4,z5,z6,z7,z8,z9,aX⟩:=cl11 af;clear af fR au;obtain⟨Q,hQ⟩:∃Q,Q=Obj.cells #[.slice fM fF ft,.slice fK fL fD,.int .i64 fI,.int .i64 fh,.bool f5,.int .i64 lf5,.slice oA oF oH,.int .i64 (x.ep:Int),.int .i64 (x.ar:Int),.int .i64 (x.us:Int),.int .i64 (x.fr:Int)] 42:=⟨_,rfl⟩
 have cX:=qH ((bw.out.below ax.out bw.out.lt).alloc Q);have uD:=qH (show Below W1.heap.size W1 (w5.alloc Q) from ax.out.alloc ax.out.size Q);have HQ:=qH hQ;clear hQ;go_wp2_with (first|(rw[←HQ.out];(refine wpList_store_row rfl 42 (.tmp 4) (.tmp 85) rfl g4 #[.slice aS nS cS,.slice aL nL cL,.int .i64 cw,.int .i64 cf,.bool f,.int .i64 lf,.slice aR nR cR,.int .i64 (x.ep:Int),.int .i64 (x.ar:Int),.int .i64 (x.us:Int),.int .i64 (x.fr:Int)] rfl rfl 42 #[.slice none 0 0,.slice none 0 0,.int .i64 0,.int .i64 0,.bool false,.int .i64 0,.slice none 0 0,.int .i64 0,.int .i64 0,.int .i64 0,.int .i64 0] cX.out (elv42 _ _ _ _ _ _ _ _ _ _ _) rfl (all11 _ _ _ _ _ _ _ _ _ _ _ _ _ _ _ _ _) ?_))|(refine bodyPost_ret (v:= .tuple #[.agg #[.slice aS nS cS,.slice aL nL cL,.int .i64 cw,.int .i64 cf,.bool f,.int .i64 lf,.slice aR nR cR,.int .i64 (x.ep:Int),.int .i64 (x.ar:Int),.int .i64 (x.us:Int),.int .i64 (x.fr:Int)],.int .i64 32]) (leaveC8 rfl rfl (row_blk cX.out _)) rfl ⟨_,rfl,((ia.out.below uD.out).st (row_fr (w5.alloc Q) g4 _) (fun q hq=>by have:=ci.out;have:=HG2.out;omega)).down_,aw.out.trans (((Fr.of_below (D:=fun q=>q=g4) uD.out).trans (row_fr (w5.alloc Q) g4 _) (fun q hq=> .inl hq)).below (fun q hq=>by have:=ci.out;omega) aw.out.size)⟩))
theorem commit8_put{A:Nat→Prop}{w:World}{tv lv:Value}{x:Ss}{cs:List Chg}(h:TRs A w tv x)(hA:∀k,A k→k<w.heap.size)(hc:CRd A w lv cs)(hne:cs≠ [])(hl:cs.any longC=false)(hG:GoodX x)(hcb:(chgsB cs).length≤100000000)(hcs:cs.length≤100000)(hp2:(partsL (x.ep:Int) (x.fr:Int) cs).2=true)(hpj:(partsL (x.ep:Int) (x.fr:Int) cs).1.length≤jN x.n)(hft:fitB x.n (applyL x.rows cs)=true)(hroom:x.us+(partsL (x.ep:Int) (x.fr:Int) cs).1.length≤jN x.n):
  Calls Tryz.prog 24 #[tv,lv] w (GivesT8 A w (putS x cs) 0):=by
 obtain⟨aS,nS,cS,aL,nL,cL,cw,cf,f,lf,aR,nR,cR,rfl,hT0,eW⟩:=h;obtain⟨W1,hW1⟩:∃W1,W1=((w.alloc (Obj.cells #[.slice aS nS cS,.slice aL nL cL,.int .i64 cw,.int .i64 cf,.bool f,.int .i64 lf,.slice aR nR cR,.int .i64 (x.ep:Int),.int .i64 (x.ar:Int),.int .i64 (x.us:Int),.int .i64 (x.fr:Int)] 42)).alloc (Obj.cells #[.slice none 0 0,.slice none 0 0,.int .i64 0,.int .i64 0,.bool false,.int .i64 0,.slice none 0 0,.int .i64 0,.int .i64 0,.int .i64 0,.int .i64 0] 42)):=⟨_,rfl⟩
 have aj:Below w.heap.size w W1:=by rw[hW1];exact below2 w _ _
 have hs1:W1.heap.size=w.heap.size+2:=by rw[hW1];simp
 have hb1:Dv.Blk W1 w.heap.size 42 #[.slice aS nS cS,.slice aL nL cL,.int .i64 cw,.int .i64 cf,.bool f,.int .i64 lf,.slice aR nR cR,.int .i64 (x.ep:Int),.int .i64 (x.ar:Int),.int .i64 (x.us:Int),.int .i64 (x.fr:Int)]:=by rw[hW1];exact heap_alloc2_old w _ _
 have hb2:Dv.Blk W1 (w.heap.size+1) 42 #[.slice none 0 0,.slice none 0 0,.int .i64 0,.int .i64 0,.bool false,.int .i64 0,.slice none 0 0,.int .i64 0,.int .i64 0,.int .i64 0,.int .i64 0]:=by rw[hW1];exact heap_alloc2_new w _ _
 have hT:TRd (Up A w.heap.size (w.heap.size+2)) W1 (.agg #[.slice aS nS cS,.slice aL nL cL,.int .i64 cw,.int .i64 cf,.bool f,.int .i64 lf]) x.d:=hT0.up_ aj (Nat.le_refl _);have du:RRd (Up A w.heap.size (w.heap.size+2)) W1 (.slice aR nR cR) x.rows:=eW.up_ aj (Nat.le_refl _);have cE:∀k,Up A w.heap.size (w.heap.size+2) k→k<W1.heap.size:=up_lt hA (by omega) aj.size;have ia:=qH (trs_mk hT du);have hcr:∀X,Below W1.heap.size W1 X→RC X lv cs:=fun X hX=>rc_below (rc_below hc.rc aj (Nat.le_refl _)) hX (by have:=aj.size;omega)
 obtain⟨aC,cC,hlv,zw,hcm⟩:=rc_shape hc.rc;subst hlv;have aD:=qH hb1;have bw:=qH hb2;have aw:=qH aj;have dU:=qH hW1;have qW:=qH hcr;have fN:=qH cE;have iy:=fun(X:World) (hX:Below W1.heap.size W1 X)=>fun k (hk:Up A w.heap.size (w.heap.size+2) k)=>Nat.lt_of_lt_of_le (cE k hk) hX.size
 have jK:=qH iy;have jx:=hT.len_;have hn:=hG.n;have di:x.n≤4096:=hG.ok.n;have kQ:x.d.firm.length≤4096:=hG.ok.n;have hn':64≤x.d.firm.length:=hG.n;have fg:=hG.ep;have har:=hG.ar;have ah:=hG.us;have ay:=hG.fr;have eC:=(rows_few_ hG).2;have se:x.us≤1024:=by have:=jN_le x.n;omega
 obtain⟨J,hJ⟩:∃J,J=jN nS:=⟨_,rfl⟩
 obtain⟨M,hM⟩:∃M,M=aN nS:=⟨_,rfl⟩
 have Cc:J≤1024:=by rw[hJ,jx];have:=jN_le x.d.firm.length;omega
 have al:=fun X=>layout8_any (nS:Int) (by omega) (by omega) X
 rw[layJ_nat,layA_nat,←hM,←hJ] at al;have bh:=qH al;have HL:=qH (long8_any _ cs W1 (hcr _ (Below.refl _ _)));rw[hl] at HL;obtain⟨L2,hL2⟩:∃L2,L2=applyL x.rows cs:=⟨_,rfl⟩
 have hap:=fun(X:World) (hX:Below W1.heap.size W1 X)=>refApplyD_any _ _ _ _ X (iy X hX) (du.below hX) (show CRd (Up A w.heap.size (w.heap.size+2)) X (.slice aC cs.length cC) cs from(CVP.below (P':=RAd (Up A w.heap.size (w.heap.size+2)) W1) hc aj (fun _ _ h=>h.fr (D:=fun _=>False) (Fr.of_below aj) (fun _ h=>h.elim) (up_new (Nat.le_refl _)))).below' hX) (by omega)
 rw[←hL2] at hap;have eA:=qH hap;have nQ:=qH hL2;have HJ:=qH hJ;have sq:=qH hM;have lz:=qH jx;have su:=qH hG;have rI:=qH hT;have hpt:=fun(X:World) (hX:Below W1.heap.size W1 X)=>refParts_any (x.ep:Int) (x.fr:Int) _ cs X (hcr X hX) hcb (by omega)
 obtain⟨⟨P1,P2⟩,bF⟩:∃PL,PL=partsL (x.ep:Int) (x.fr:Int) cs:=⟨_,rfl⟩
 rw[←bF] at hpt;have j6:=qH hpt;have cW:=qH bF;have Cw:P1.length≤200:=by have:=parts_len (x.ep:Int) (x.fr:Int) cs;rw[←bF] at this;exact this
 have hcw:∀X,Below w.heap.size w X→RC X (.slice aC cs.length cC) cs:=fun X hX=>rc_below hc.rc hX (Nat.le_refl _)
 have Bn:=qH hcw;clear hcw;have hcl:(0:Int)<(cs.length:Int):=by have:=List.length_pos_iff.2 hne;omega
 have gZ:((cs.length:Int)==0)=false:=by rw[beq_eq_false_iff_ne];omega
 clear hpt bF hap hL2 hJ hM al hG jx hn di kQ hn' ah eC;clear hA hc aj hs1 hb1 hb2 cE hW1 hT0 eW hcr iy hT du;obtain⟨g2,hg2⟩:∃g2,g2=w.heap.size:=⟨_,rfl⟩
 obtain⟨g4,hg4⟩:∃g4,g4=w.heap.size+1:=⟨_,rfl⟩
 rw[←hg4] at bw;rw[←hg2] at aD ia fN jK eA rI;have ci:=qH hg4;have HG2:=qH hg2;clear hg4 hg2;go_enter Tryz.func24,Tryz.ntmps24;have FO:(x.us:Int)+(P1.length:Int)≤(J:Int):=by
  have e:=cW.out;have h2:x.us+P1.length≤J:=by rw[HJ.out,lz.out];rw[←e] at hroom;exact hroom
  omega
 clear hroom;have gC:P2=true:=by have e:=cW.out;rw[←e] at hp2;exact hp2
 subst gC;have GJ:(P1.length:Int)≤(J:Int):=by
  have e:=cW.out;have h2:P1.length≤J:=by rw[HJ.out,lz.out];rw[←e] at hpj;exact hpj
  omega
 obtain⟨ps,hbl,nY⟩:∃ps,buildL L2=some ps∧ps.length≤M:=by
  rw[nQ.out,sq.out,lz.out];unfold fitB at hft;split at hft
  ·rename_i ps e
   exact⟨ps,e,of_decide_eq_true hft⟩
  ·cases hft
 have hle:(ps.length:Int)≤(M:Int):=by omega
 clear hp2 hpj hft nY;go_wp2_with fail
 rw[←dU.out,←ci.out,←HG2.out];refine HL.out.mono ?_;rintro e w1⟨rfl,hb1⟩;have an:=qH hb1;have af:=aD.out.below hb1 aD.out.lt;have zl:=af.lt;obtain⟨z0,z1,z2,z3,z4,z5,z6,z7,z8,z9,aX⟩:=cl11 af;clear af hb1;go_wp2_with fail
 refine(eA.out _ an.out).mono ?_;rintro e w2⟨v2,rfl,hr2,hb2⟩;obtain⟨A2,c2,rfl,hsh⟩:=RVP.shape hr2;have cM:=qH hr2;have ae:=qH (an.out.trans (hb2.mono an.out.size));have cZ:=qH (refBuild_any _ _ w2 hr2.rr);have af:=aD.out.below ae.out aD.out.lt;have zl:=af.lt;obtain⟨z0,z1,z2,z3,z4,z5,z6,z7,z8,z9,aX⟩:=cl11 af;clear af hb2 hr2 hsh;go_wp2_with (go_at_call 30;refine(bh.out _).mono ?_;rintro e wq ⟨rfl,rfl⟩)
 rw[hbl] at cZ;refine cZ.out.mono ?_;rintro e w3⟨pv,rfl,hop,hb3⟩;have ak:=qH (ae.out.trans (hb3.mono ae.out.size));have bO:=qH (cM.out.below hb3);have af:=aD.out.below ak.out aD.out.lt;have zl:=af.lt;obtain⟨z0,z1,z2,z3,z4,z5,z6,z7,z8,z9,aX⟩:=cl11 af;clear af hb3;obtain⟨Ap,cp,rfl,bN,bT⟩:=hop.shape;simp only[Option.isSome,Option.getD_some];clear bN bT hop;go_wp2_with fail
 refine(j6.out _ ak.out).mono ?_;rintro e w4⟨sv,rfl,hop,hb4⟩;obtain⟨As,yC,rfl,bN,bT⟩:=hop.shape;have ai:=qH (ak.out.trans (hb4.mono ak.out.size));have iS:=qH (bO.out.below hb4);clear bN bT hop hb4;have af:=aD.out.below ai.out aD.out.lt;have zl:=af.lt;obtain⟨z0,z1,z2,z3,z4,z5,z6,z7,z8,z9,aX⟩:=cl11 af;clear af;have ju:=qH (aw.out.trans (ai.out.mono aw.out.size));have k8:=qH (aD.out.below ai.out aD.out.lt);have po:=qH (bw.out.below ai.out bw.out.lt);have Cl:=qH (rI.out.below ai.out);have Cz:=qH (jK.out _ ai.out);have fX:=iS;have Cq:=qH (show x.rows=x.rows from rfl);have rj:=qH (show OK x.d∧x.d.loose.length≤8000 from⟨su.out.ok,su.out.lo⟩);have ko:=refParts_any (x.ep:Int) (x.fr:Int) _ cs w4 (Bn.out _ ju.out) hcb (by omega);obtain⟨⟨B,B2⟩,hB⟩:∃PL,PL=partsL (x.ep:Int) (x.fr:Int) cs:=⟨_,rfl⟩
 rw[←hB] at ko;have Ed:B.length≤200:=by have:=parts_len (x.ep:Int) (x.fr:Int) cs;rw[←hB] at this;exact this
 have s8:=qH ko;have dd:=qH hB;have af:=k8.out;have zl:=af.lt;obtain⟨z0,z1,z2,z3,z4,z5,z6,z7,z8,z9,aX⟩:=cl11 af;clear af ko hB;go_wp2_with fail
 refine s8.out.mono ?_;rintro e w6⟨bv,rfl,hop,ap⟩;obtain⟨Ab,cb,rfl,bN,bT⟩:=hop.shape;have wQ:=qH (OP.rp hop);have aE:=qH ap;have af:=k8.out.below ap k8.out.lt;have zl:=af.lt;obtain⟨z0,z1,z2,z3,z4,z5,z6,z7,z8,z9,aX⟩:=cl11 af;obtain⟨W7,iB⟩:∃W7,W7=w6.alloc (Obj.cells #[.slice aS nS cS,.slice aL nL cL,.int .i64 cw,.int .i64 cf,.bool f,.int .i64 lf] 29):=⟨_,rfl⟩
 have br:Below w6.heap.size w6 W7:=by rw[iB];exact(Below.refl _ _).alloc (Nat.le_refl _) _
 have gz:Below w4.heap.size w4 W7:=ap.trans (br.mono ap.size);obtain⟨g17,dz⟩:∃g17,g17=w6.heap.size:=⟨_,rfl⟩
 have oN:W7.heap.size=g17+1:=by rw[iB,dz];simp
 have jy:Dv.Blk W7 g17 29 #[.slice aS nS cS,.slice aL nL cL,.int .i64 cw,.int .i64 cf,.bool f,.int .i64 lf]:=by rw[iB,dz];exact heap_alloc_new w6 _
 have htd:=(Cl.out.below ap).up_ (n:=g17) (m:=g17+1) br (by omega);have jm:=qH (show BoxT (Up (Up A g2 (g2+2)) g17 (g17+1)) W7 g17 x.d from⟨_,_,_,_,_,_,_,_,_,_,jy,htd⟩);have BN:=qH (show ∀k,Up (Up A g2 (g2+2)) g17 (g17+1) k→k<W7.heap.size from fun k hk=>by
  rcases hk with hk|hk
  ·exact Nat.lt_of_lt_of_le (Cz.out k hk) gz.size
  ·omega)
 have tc:=qH iB;have bo:=qH br;have si:=qH gz;have jd:=qH dz;have uu:=qH oN;have m4:=qH (k8.out.below gz k8.out.lt);have gV:g2<g17:=by have:=(k8.out.below ap k8.out.lt).lt;omega
 have jT:g4<g17:=by have:=(po.out.below ap po.out.lt).lt;omega
 have kJ:=qH (po.out.below gz po.out.lt);have yU:=qH ((fX.out.below ap).up_ (n:=g17) (m:=g17+1) br (by omega));obtain⟨L,hL⟩:∃L,L=B.length:=⟨_,rfl⟩
 rw[←hL] at Ed;have tH:=qH hL;obtain⟨SS,gd⟩:∃SS:Nat→Sim,SS=fun m=>writeL x.d (2+x.us) B m:=⟨_,rfl⟩
 have D5:=qH (show SS 0=x.d by rw[gd];rfl);have i7:=qH (show ∀m,SS (m+1)=(SS m).write ((2+x.us+m:Nat):Int) (B.getD m []) from fun m=>by rw[gd];rfl);have oQ:=qH (show ∀m,m≤300→OK (SS m)∧(SS m).loose.length<60000 from fun m hm=>by
  rw[gd];exact⟨ok_writeL8 rj.out.1 _ _ m (by have:=rj.out.2;omega),(by have:=writeL_loose x.d (2+x.us) B m;have:=rj.out.2;show(writeL x.d (2+x.us) B m).loose.length<60000;omega)⟩)
 have pQ:=qH (show putS x cs={d:=(SS L).flush,rows:=applyL x.rows cs,ep:=x.ep,ar:=x.ar,us:=x.us+L,fr:=x.fr+1} by unfold putS;rw[←dd.out,gd,hL]);rw[←D5.out] at jm;rw[←hL];clear hop ap br gz oN jy htd iB bN bT af gd hL;go_wp2_with fail
 rw[←tc.out,←dz];clear dz
 go_loopw [18] (fun i wr=>∃k:Nat,k≤L∧i= .int .i64 k∧BoxT (Up (Up A g2 (g2+2)) g17 (g17+1)) wr g17 (SS k)∧Fr (fun j=>j=g17) W7 wr) (fun i _=>L-(intOf i).toNat)
 case atStart=>exact⟨0,Nat.zero_le _,rfl,jm.out,Fr.refl _ _⟩
 case round=>
  obtain⟨k,hk,rfl,bA,ay⟩:=hrel;obtain⟨aS,nS,cS,aL,nL,cL,cw,cf,f,lf,hblk,htr⟩:=bA;have bG:=oQ.out k (by omega);have kG:=fun q hq=>Nat.lt_of_lt_of_le (BN.out q hq) ay.size
  have hk2:=m4.out.same (ay.block g2 m4.out.lt (by omega));have ic:=qH hk2;have dr:=qH ay;by_cases hlt:k<L
  ·have zK:k<B.length:=by rw[←tH.out];exact hlt
   obtain⟨bP,oP,u,rfl,mf,hu,bi⟩:=rp_at wQ.out zK;have wy:bP<g17:=by rw[jd.out];exact mf
   have tb:wr.cell? ⟨bP,oP+k,none⟩=some u:=(World.cell?_of_block (a:=⟨bP,oP+k,none⟩) (ay.block bP (by have:=uu.out;omega) (by omega))).trans ((bo.out.cell (p:=⟨bP,oP+k,none⟩) mf).trans hu);have kL:RB wr u B[k]:=RB.fr (bi.below bo.out) ay (fun hl q hq hd=>by have:=RB.lt_ bi hl hq;have:=jd.out;omega);have hgd:B.getD k []=B[k]:=by rw[List.getD_eq_getElem?_getD,List.getElem?_eq_getElem zK];rfl
   have hnx:=i7.out k;rw[hgd] at hnx;have hwr:=fun(X:World) (hX:Below wr.heap.size wr X)=>wr8_any (((2+x.us+k:Nat):Int)) B[k] (htr.below hX) bG.1 (fun q hq=>Nat.lt_of_lt_of_le (kG q hq) hX.size) (by omega) (kL.below hX)
   rw[←hnx,show((2+x.us+k:Nat):Int)=2+(x.us:Int)+(k:Int) by omega] at hwr;obtain⟨s2,hs2⟩:∃s2,s2=SS (k+1):=⟨_,rfl⟩
   rw[←hs2] at hwr;obtain⟨Au,cu,ah⟩:=rb_shape kL;obtain⟨nu,nl⟩:∃nu,nu=B[k].length:=⟨_,rfl⟩
   rw[←nl] at ah;subst ah;have iK:=qH hwr;have fE:=qH hs2;have az:=qH hblk;have HU:=qH tb;have fZ:=qH (show bP≠g17 by omega);have my:bP<wr.heap.size:=World.block_lt_of_cell? wr _ tb;have hx1:IntKind.i64.wrap (2+(x.us:Int))=2+(x.us:Int):=by rw[IntKind.wrap_i64];omega
   have hx2:IntKind.i64.wrap (2+(x.us:Int)+(k:Int))=2+(x.us:Int)+(k:Int):=by rw[IntKind.wrap_i64];omega
   obtain⟨y0,y1,y2,y3,y4,y5⟩:=cl6 hblk;have q1:(0:Int)≤(k:Int):=by omega
   have q2:(k:Int)<(L:Int):=by omega
   clear hblk htr bG kG hk2 ay mf hu bi tb kL hgd hnx hwr hs2 nl;go_wp2_with fail
   refine wp_region_held_drew (S:=fun X=>Fr (fun q=>q=g17) wr X) (by kernel_rfl) ((Fr.refl _ _).drew) (fun hHeld=>?_);refine tkC 1 ?_;refine tkA 2 (v:=?_) ?_ ?_;rotate_left
   ·intro W hSw;have hq:=(World.cell?_of_block (a:=⟨g2,9,none⟩) (hSw.block g2 ic.out.lt (by omega))).trans (ic.out.cell 9);simp at hq;go_simp;try (with_reducible rfl)
   try simp only[Act.put,zA,zB,zC]
   refine tkC 3 ?_;refine tkC 4 ?_;refine tkC 5 ?_;refine tkC 6 ?_;refine tkC 7 ?_;refine tkC 8 ?_;refine tkA 9 (v:=?_) ?_ ?_;rotate_left
   ·intro W hSw;have hq:=(World.cell?_of_block (a:=⟨bP,oP+k,none⟩) (hSw.block bP my fZ.out)).trans HU.out;go_simp;try (with_reducible rfl)
   try simp only[Act.put,zA,zB,zC]
   refine rdA (rs:= [0]) ?_;refine arC (fun K hK=>?_);go_simp;refine hK.out _ _ ?_ (fun _=>?_)
   ·exact hHeld
   clear hK K;try simp only[Act.put,zA,zB,zC]
   refine rdA (rs:= [10]) ?_;refine arC (fun K hK=>?_);go_simp;refine(iK.out _ ((Below.refl wr.heap.size wr).drew)).mono ?_;rintro e w9⟨Bg,rfl,je,fx⟩;obtain⟨gR,gj,g9,gP,gb,gX,gk,gT,f9,lf9,rfl⟩:=je.sixn;have pM:=qH je;have th:Below wr.heap.size wr w9:=((Below.refl wr.heap.size wr).drew).trans fx;have fG:=qH th;clear je fx;refine hK.out _ _ ?_ (fun hHeld=>?_)
   ·exact(Fr.of_below fG.out)
   clear hK K;try simp only[Act.put,zA,zB,zC]
   refine rdA (rs:= [11]) ?_;refine arC (fun K hK=>?_);have bD:=az.out.below fG.out az.out.lt;clear y0 y1 y2 y3 y4 y5;obtain⟨y0,y1,y2,y3,y4,y5⟩:=cl6 bD;have df:=bD.frozen;have dl:=bD.lt;go_simp;try rw[six_def]
   refine hK.out _ _ ?_ (fun hHeld=>?_)
   ·exact((Fr.of_below fG.out).trans (six_fr w9 g17 (.slice gR gj g9) (.slice gP gb gX) (.int .i64 gk) (.int .i64 gT) (.bool f9) (.int .i64 lf9)) (fun q hq=> .inl hq))
   clear hK K;try simp only[Act.put,zA,zB,zC]
   refine wpAnyH_done (by kernel_rfl) ?_ _;have kp:=qH (BoxT.store (az.out.below fG.out az.out.lt) pM.out (.inr ⟨Nat.le_refl _,by omega⟩));rw[fE.out] at kp;have ts:=qH (dr.out.trans ((Fr.of_below (D:=fun q=>q=g17) fG.out).trans (six_fr w9 g17 (.slice gR gj g9) (.slice gP gb gX) (.int .i64 gk) (.int .i64 gT) (.bool f9) (.int .i64 lf9)) (fun q hq=> .inl hq)) (fun q hq=> .inl hq));generalize (sixC w9 g17 (.slice gR gj g9) (.slice gP gb gX) (.int .i64 gk) (.int .i64 gT) (.bool f9) (.int .i64 lf9))=wf at kp ts hHeld⊢;clear hHeld;go_wp2;go_roundw
   case rel=>exact⟨k+1,by omega,by go_num,kp.out,ts.out⟩
   case measure=>simp[intOf];omega
  ·have hkk:k=L:=by omega
   subst hkk;have hfl:=refflush_any htr bG.1 kG;obtain⟨s2,hs2⟩:∃s2,s2=(SS k).flush:=⟨_,rfl⟩
   rw[←hs2] at hfl;have iJ:=qH hfl;have fE:=qH hs2;have az:=qH hblk;obtain⟨y0,y1,y2,y3,y4,y5⟩:=cl6 hblk;clear hblk htr bG kG hfl hs2;go_wp2_with fail
   go_at_call 44;refine iJ.out.mono ?_;rintro e w8⟨Gw,rfl,tV,cz⟩;obtain⟨fa,eK,eX,eU,eL,eO,eM,eZ,lB,eQ,rfl⟩:=tV.sixn;have CJ:=qH tV;have nT:=qH (ic.out.below cz ic.out.lt);have tg:=qH ((kJ.out.same (dr.out.block g4 kJ.out.lt (by omega))).below cz (Nat.lt_of_lt_of_le kJ.out.lt dr.out.size));have nm:=qH (dr.out.trans (Fr.of_below (D:=fun q=>q=g17) cz) (fun q hq=> .inl hq));have dy:g4≠g2:=by have:=HG2.out;have:=ci.out;omega
   have af:=nT.out;have zl:=af.lt;have zf:=af.frozen;have z0:=af.cell 0;have z1:=af.cell 1;have z2:=af.cell 2;have z3:=af.cell 3;have z4:=af.cell 4;have z5:=af.cell 5;simp at z0 z1 z2 z3 z4 z5;clear tV cz af;go_wp2_with (first|(rw[six_def];obtain⟨wA,zI,dY,nd,xN⟩:∃wA,wA=sixC w8 g2 (.slice fa eK eX) (.slice eU eL eO) (.int .i64 eM) (.int .i64 eZ) (.bool lB) (.int .i64 eQ)∧Dv.Blk wA g2 42 #[.slice fa eK eX,.slice eU eL eO,.int .i64 eM,.int .i64 eZ,.bool lB,.int .i64 eQ,.slice aR nR cR,.int .i64 (x.ep:Int),.int .i64 (x.ar:Int),.int .i64 (x.us:Int),.int .i64 (x.fr:Int)]∧Dv.Blk wA g4 42 #[.slice none 0 0,.slice none 0 0,.int .i64 0,.int .i64 0,.bool false,.int .i64 0,.slice none 0 0,.int .i64 0,.int .i64 0,.int .i64 0,.int .i64 0]∧Fr (fun q=>q=g2) w8 wA:=⟨_,rfl,six11 nT.out _ _ _ _ _ _,six_far tg.out dy _ _ _ _ _ _,six_fr _ _ _ _ _ _ _ _⟩;rw[←zI];clear zI z0 z1 z2 z3 z4 z5 zl zf;have Ki:=qH dY;have mX:=qH nd;have ui:=qH xN;have zl:=dY.lt;have zf:=dY.frozen;have z0:=dY.cell 0;have z1:=dY.cell 1;have z2:=dY.cell 2;have z3:=dY.cell 3;have z4:=dY.cell 4;have z5:=dY.cell 5;have z6:=dY.cell 6;have z7:=dY.cell 7;have z8:=dY.cell 8;have z9:=dY.cell 9;have aX:=dY.cell 10;simp at z0 z1 z2 z3 z4 z5 z6 z7 z8 z9 aX;clear dY nd xN)|(refine wpList_store_row rfl 42 (.tmp 4) (.tmp 131) rfl g4 #[.slice fa eK eX,.slice eU eL eO,.int .i64 eM,.int .i64 eZ,.bool lB,.int .i64 eQ,.slice A2 L2.length c2,.int .i64 (x.ep:Int),.int .i64 (x.ar:Int),.int .i64 ((x.us:Int)+(k:Int)),.int .i64 ((x.fr:Int)+1)] rfl rfl 42 #[.slice none 0 0,.slice none 0 0,.int .i64 0,.int .i64 0,.bool false,.int .i64 0,.slice none 0 0,.int .i64 0,.int .i64 0,.int .i64 0,.int .i64 0] ?hg (elv42 _ _ _ _ _ _ _ _ _ _ _) rfl (all11 _ _ _ _ _ _ _ _ _ _ _ _ _ _ _ _ _) ?_;case hg=>exact(((mX.out.far (p:=⟨g2,6,none⟩) dy (.slice A2 L2.length c2)).far (p:=⟨g2,9,none⟩) dy (.int .i64 ((x.us:Int)+(k:Int)))).far (p:=⟨g2,10,none⟩) dy (.int .i64 ((x.fr:Int)+1))))|(refine bodyPost_ret (v:= .tuple #[.agg #[.slice fa eK eX,.slice eU eL eO,.int .i64 eM,.int .i64 eZ,.bool lB,.int .i64 eQ,.slice A2 L2.length c2,.int .i64 (x.ep:Int),.int .i64 (x.ar:Int),.int .i64 ((x.us:Int)+(k:Int)),.int .i64 ((x.fr:Int)+1)],.int .i64 0]) (leaveC8 rfl rfl (row_blk ((((mX.out.far (p:=⟨g2,6,none⟩) dy (.slice A2 L2.length c2)).far (p:=⟨g2,9,none⟩) dy (.int .i64 ((x.us:Int)+(k:Int)))).far (p:=⟨g2,10,none⟩) dy (.int .i64 ((x.fr:Int)+1)))) _)) rfl ?_))
   have hg2:=HG2.out;have hg4:=ci.out;have tN:=(((ui.out.setCell (p:=⟨g2,6,none⟩) (.inl rfl) (.slice A2 L2.length c2)).setCell (p:=⟨g2,9,none⟩) (.inl rfl) (.int .i64 ((x.us:Int)+(k:Int)))).setCell (p:=⟨g2,10,none⟩) (.inl rfl) (.int .i64 ((x.fr:Int)+1)))
   have fi:=qH ((tN.mono (E:=fun q=>q=g2∨q=g4) (fun q hq=> .inl hq)).trans (row_fr _ g4 #[.slice fa eK eX,.slice eU eL eO,.int .i64 eM,.int .i64 eZ,.bool lB,.int .i64 eQ,.slice A2 L2.length c2,.int .i64 (x.ep:Int),.int .i64 (x.ar:Int),.int .i64 ((x.us:Int)+(k:Int)),.int .i64 ((x.fr:Int)+1)]) (fun q hq=> .inl (.inr hq)));have hin:∀q,(q=g2∨q=g4)→Up (Up A g2 (g2+2)) g17 (g17+1) q:=fun q hq=> .inl (.inr (by omega))
   refine⟨_,rfl,?_,ju.out.trans ((((Fr.of_below (D:=fun q=>(q=g2∨q=g4)∨q=g17) si.out).trans (nm.out.mono (E:=fun q=>(q=g2∨q=g4)∨q=g17) (fun q hq=> .inr hq)) (fun q hq=> .inl hq)).trans fi.out (fun q hq=> .inl (.inl hq))).below (fun q hq=>by have:=ju.out.size;have:=jd.out;have:=aE.out.size;rcases hq with (hq|hq)|hq <;>omega) ju.out.size)⟩;rw[pQ.out];have eC:L2=applyL x.rows cs:=by first|exact nQ.out|(rw[Cq.out];exact nQ.out)
   refine⟨fa,eK,eX,eU,eL,eO,eM,eZ,lB,eQ,A2,L2.length,c2,rfl,?_,?_⟩
   ·rw[←fE.out]
    exact CJ.out.fr fi.out hin (fun q hq=> .inl (.inl (.inl hq)))
   ·rw[←eC]
    exact(yU.out.st nm.out (fun q hq=>by omega)).fr fi.out hin (fun q hq=> .inl (.inl (.inl hq)))
theorem ok_layS8{s:Sim}(h:OK s)(ep ar:Nat){ps:List (List UInt8)}(bj:∀p∈ps,p.length=256)(hl:s.loose.length+ps.length*4+1<100000):OK (layS s ep ar ps)∧(layS s ep ar ps).loose.length≤s.loose.length+ps.length*4+1:=by
 have hc:(chunkL64 ps.flatten).length=ps.length*4:=by unfold chunkL64;rw[List.length_map,List.length_range];unfold of64;rw[flat256 bj];omega
 have h1:=writeL_loose s (firstN s.firm.length ar) (chunkL64 ps.flatten) (chunkL64 ps.flatten).length;have h2:=flush_loose (writeL s (firstN s.firm.length ar) (chunkL64 ps.flatten) (chunkL64 ps.flatten).length);have h3:=write_loose (writeL s (firstN s.firm.length ar) (chunkL64 ps.flatten) (chunkL64 ps.flatten).length).flush ((ep%2:Nat):Int) (Str.headL ep ar ps.length);have h4:=flush_loose ((writeL s (firstN s.firm.length ar) (chunkL64 ps.flatten) (chunkL64 ps.flatten).length).flush.write ((ep%2:Nat):Int) (Str.headL ep ar ps.length));refine⟨((ok_writeL8 h _ _ _ (by omega)).flush.write _ _ (by omega)).flush,?_⟩;unfold layS;omega
theorem commit8_ck{A:Nat→Prop}{w:World}{tv lv:Value}{x:Ss}{cs:List Chg}(h:TRs A w tv x)(hA:∀k,A k→k<w.heap.size)(hc:CRd A w lv cs)(hne:cs≠ [])(hl:cs.any longC=false)(hG:GoodX x)(hcb:(chgsB cs).length≤100000000)(hcs:cs.length≤100000)(hp2:(partsL (x.ep:Int) (x.fr:Int) cs).2=true)(hpj:(partsL (x.ep:Int) (x.fr:Int) cs).1.length≤jN x.n)(hft:fitB x.n (applyL x.rows cs)=true)(hroom:jN x.n<x.us+(partsL (x.ep:Int) (x.fr:Int) cs).1.length)(hov:x.ep<1073741824):
  Calls Tryz.prog 24 #[tv,lv] w (GivesT8 A w (putS (ckS x) cs) 0):=by
 obtain⟨aS,nS,cS,aL,nL,cL,cw,cf,f,lf,aR,nR,cR,rfl,hT0,eW⟩:=h;obtain⟨W1,hW1⟩:∃W1,W1=((w.alloc (Obj.cells #[.slice aS nS cS,.slice aL nL cL,.int .i64 cw,.int .i64 cf,.bool f,.int .i64 lf,.slice aR nR cR,.int .i64 (x.ep:Int),.int .i64 (x.ar:Int),.int .i64 (x.us:Int),.int .i64 (x.fr:Int)] 42)).alloc (Obj.cells #[.slice none 0 0,.slice none 0 0,.int .i64 0,.int .i64 0,.bool false,.int .i64 0,.slice none 0 0,.int .i64 0,.int .i64 0,.int .i64 0,.int .i64 0] 42)):=⟨_,rfl⟩
 have aj:Below w.heap.size w W1:=by rw[hW1];exact below2 w _ _
 have hs1:W1.heap.size=w.heap.size+2:=by rw[hW1];simp
 have hb1:Dv.Blk W1 w.heap.size 42 #[.slice aS nS cS,.slice aL nL cL,.int .i64 cw,.int .i64 cf,.bool f,.int .i64 lf,.slice aR nR cR,.int .i64 (x.ep:Int),.int .i64 (x.ar:Int),.int .i64 (x.us:Int),.int .i64 (x.fr:Int)]:=by rw[hW1];exact heap_alloc2_old w _ _
 have hb2:Dv.Blk W1 (w.heap.size+1) 42 #[.slice none 0 0,.slice none 0 0,.int .i64 0,.int .i64 0,.bool false,.int .i64 0,.slice none 0 0,.int .i64 0,.int .i64 0,.int .i64 0,.int .i64 0]:=by rw[hW1];exact heap_alloc2_new w _ _
 have hT:TRd (Up A w.heap.size (w.heap.size+2)) W1 (.agg #[.slice aS nS cS,.slice aL nL cL,.int .i64 cw,.int .i64 cf,.bool f,.int .i64 lf]) x.d:=hT0.up_ aj (Nat.le_refl _);have du:RRd (Up A w.heap.size (w.heap.size+2)) W1 (.slice aR nR cR) x.rows:=eW.up_ aj (Nat.le_refl _);have cE:∀k,Up A w.heap.size (w.heap.size+2) k→k<W1.heap.size:=up_lt hA (by omega) aj.size;have ia:=qH (trs_mk hT du);have hcr:∀X,Below W1.heap.size W1 X→RC X lv cs:=fun X hX=>rc_below (rc_below hc.rc aj (Nat.le_refl _)) hX (by have:=aj.size;omega)
 obtain⟨aC,cC,hlv,zw,hcm⟩:=rc_shape hc.rc;subst hlv;have aD:=qH hb1;have bw:=qH hb2;have aw:=qH aj;have dU:=qH hW1;have qW:=qH hcr;have fN:=qH cE;have iy:=fun(X:World) (hX:Below W1.heap.size W1 X)=>fun k (hk:Up A w.heap.size (w.heap.size+2) k)=>Nat.lt_of_lt_of_le (cE k hk) hX.size
 have jK:=qH iy;have jx:=hT.len_;have hn:=hG.n;have di:x.n≤4096:=hG.ok.n;have kQ:x.d.firm.length≤4096:=hG.ok.n;have hn':64≤x.d.firm.length:=hG.n;have fg:=hG.ep;have har:=hG.ar;have ah:=hG.us;have ay:=hG.fr;have eC:=(rows_few_ hG).2;have se:x.us≤1024:=by have:=jN_le x.n;omega
 obtain⟨J,hJ⟩:∃J,J=jN nS:=⟨_,rfl⟩
 obtain⟨M,hM⟩:∃M,M=aN nS:=⟨_,rfl⟩
 have Cc:J≤1024:=by rw[hJ,jx];have:=jN_le x.d.firm.length;omega
 have al:=fun X=>layout8_any (nS:Int) (by omega) (by omega) X
 rw[layJ_nat,layA_nat,←hM,←hJ] at al;have bh:=qH al;have HL:=qH (long8_any _ cs W1 (hcr _ (Below.refl _ _)));rw[hl] at HL;obtain⟨L2,hL2⟩:∃L2,L2=applyL x.rows cs:=⟨_,rfl⟩
 have hap:=fun(X:World) (hX:Below W1.heap.size W1 X)=>refApplyD_any _ _ _ _ X (iy X hX) (du.below hX) (show CRd (Up A w.heap.size (w.heap.size+2)) X (.slice aC cs.length cC) cs from(CVP.below (P':=RAd (Up A w.heap.size (w.heap.size+2)) W1) hc aj (fun _ _ h=>h.fr (D:=fun _=>False) (Fr.of_below aj) (fun _ h=>h.elim) (up_new (Nat.le_refl _)))).below' hX) (by omega)
 rw[←hL2] at hap;have eA:=qH hap;have nQ:=qH hL2;have HJ:=qH hJ;have sq:=qH hM;have lz:=qH jx;have su:=qH hG;have rI:=qH hT;have hpt:=fun(X:World) (hX:Below W1.heap.size W1 X)=>refParts_any (x.ep:Int) (x.fr:Int) _ cs X (hcr X hX) hcb (by omega)
 obtain⟨⟨P1,P2⟩,bF⟩:∃PL,PL=partsL (x.ep:Int) (x.fr:Int) cs:=⟨_,rfl⟩
 rw[←bF] at hpt;have j6:=qH hpt;have cW:=qH bF;have Cw:P1.length≤200:=by have:=parts_len (x.ep:Int) (x.fr:Int) cs;rw[←bF] at this;exact this
 have hcw:∀X,Below w.heap.size w X→RC X (.slice aC cs.length cC) cs:=fun X hX=>rc_below hc.rc hX (Nat.le_refl _)
 have Bn:=qH hcw;clear hcw;have hcl:(0:Int)<(cs.length:Int):=by have:=List.length_pos_iff.2 hne;omega
 have gZ:((cs.length:Int)==0)=false:=by rw[beq_eq_false_iff_ne];omega
 clear hpt bF hap hL2 hJ hM al hG jx hn di kQ hn' ah eC;clear hA hc aj hs1 hb1 hb2 cE hW1 hT0 eW hcr iy hT du;obtain⟨g2,hg2⟩:∃g2,g2=w.heap.size:=⟨_,rfl⟩
 obtain⟨g4,hg4⟩:∃g4,g4=w.heap.size+1:=⟨_,rfl⟩
 rw[←hg4] at bw;rw[←hg2] at aD ia fN jK eA rI;have ci:=qH hg4;have HG2:=qH hg2;clear hg4 hg2;go_enter Tryz.func24,Tryz.ntmps24;have FO:(J:Int)<(x.us:Int)+(P1.length:Int):=by
  have e:=cW.out;have h2:J<x.us+P1.length:=by rw[HJ.out,lz.out];rw[←e] at hroom;exact hroom
  omega
 have oZ:=qH hov;clear hroom hov;have gC:P2=true:=by have e:=cW.out;rw[←e] at hp2;exact hp2
 subst gC;have GJ:(P1.length:Int)≤(J:Int):=by
  have e:=cW.out;have h2:P1.length≤J:=by rw[HJ.out,lz.out];rw[←e] at hpj;exact hpj
  omega
 obtain⟨ps,hbl,nY⟩:∃ps,buildL L2=some ps∧ps.length≤M:=by
  rw[nQ.out,sq.out,lz.out];unfold fitB at hft;split at hft
  ·rename_i ps e
   exact⟨ps,e,of_decide_eq_true hft⟩
  ·cases hft
 have hle:(ps.length:Int)≤(M:Int):=by omega
 clear hp2 hpj hft nY;go_wp2_with fail
 rw[←dU.out,←ci.out,←HG2.out];refine HL.out.mono ?_;rintro e w1⟨rfl,hb1⟩;have an:=qH hb1;have af:=aD.out.below hb1 aD.out.lt;have zl:=af.lt;obtain⟨z0,z1,z2,z3,z4,z5,z6,z7,z8,z9,aX⟩:=cl11 af;clear af hb1;go_wp2_with fail
 refine(eA.out _ an.out).mono ?_;rintro e w2⟨v2,rfl,hr2,hb2⟩;obtain⟨A2,c2,rfl,hsh⟩:=RVP.shape hr2;have cM:=qH hr2;have ae:=qH (an.out.trans (hb2.mono an.out.size));have cZ:=qH (refBuild_any _ _ w2 hr2.rr);have af:=aD.out.below ae.out aD.out.lt;have zl:=af.lt;obtain⟨z0,z1,z2,z3,z4,z5,z6,z7,z8,z9,aX⟩:=cl11 af;clear af hb2 hr2 hsh;go_wp2_with (go_at_call 30;refine(bh.out _).mono ?_;rintro e wq ⟨rfl,rfl⟩)
 rw[hbl] at cZ;refine cZ.out.mono ?_;rintro e w3⟨pv,rfl,hop,hb3⟩;have ak:=qH (ae.out.trans (hb3.mono ae.out.size));have bO:=qH (cM.out.below hb3);have af:=aD.out.below ak.out aD.out.lt;have zl:=af.lt;obtain⟨z0,z1,z2,z3,z4,z5,z6,z7,z8,z9,aX⟩:=cl11 af;clear af hb3;obtain⟨Ap,cp,rfl,bN,bT⟩:=hop.shape;simp only[Option.isSome,Option.getD_some];clear bN bT hop;go_wp2_with fail
 refine(j6.out _ ak.out).mono ?_;rintro e w4⟨sv,rfl,hop,hb4⟩;obtain⟨As,yC,rfl,bN,bT⟩:=hop.shape;have ai:=qH (ak.out.trans (hb4.mono ak.out.size));have iS:=qH (bO.out.below hb4);clear bN bT hop hb4;have af:=aD.out.below ai.out aD.out.lt;have zl:=af.lt;obtain⟨z0,z1,z2,z3,z4,z5,z6,z7,z8,z9,aX⟩:=cl11 af;clear af;have tU:=ck8_any (ia.out.below ai.out) (jK.out _ ai.out) su.out oZ.out;have rj:Hid (OK (ckS x).d∧(ckS x).d.loose.length≤20000):=qH (by
  have hG:=su.out;obtain⟨ps',zJ,Hv⟩:=hG.fit;have di:x.n≤4096:=hG.ok.n;have ha:=aN_le x.n;have hlo:=hG.lo;have:=ok_layS8 hG.ok (x.ep+1) (1-x.ar) (built_256 zJ) (by omega);have e:(ckS x).d=layS x.d (x.ep+1) (1-x.ar) ps':=by unfold ckS;rw[zJ];rfl
  rw[e];exact⟨this.1,by omega⟩)
 obtain⟨y,hy⟩:∃y,y=ckS x:=⟨_,rfl⟩
 have Cq:=qH (show y.rows=x.rows by rw[hy];rfl);have HY:=qH hy;have GF:y.us=0:=by rw[hy];rfl
 have Gv:y.fr=0:=by rw[hy];rfl
 have IC:y.ep≤1073741824:=by rw[hy];have:=oZ.out;show x.ep+1≤_;omega
 have I2:y.us≤1024:=by omega
 have Jk:y.fr≤1024:=by omega
 rw[←hy] at tU rj⊢;have mV:=qH tU;have dy:g4≠g2:=by have:=HG2.out;have:=ci.out;omega
 clear tU hy GF Gv;go_wp2_with fail
 refine mV.out.mono ?_;rintro e w5⟨uA,rfl,fR,au⟩;obtain⟨fM,fF,ft,fK,fL,fD,fI,fh,f5,lf5,oA,oF,oH,rfl,vH,C0⟩:=fR;have ax:=qH (ai.out.trans (au.mono ai.out.size));have G3:=qH ((aD.out.below ax.out aD.out.lt).alloc (Obj.cells #[.slice fM fF ft,.slice fK fL fD,.int .i64 fI,.int .i64 fh,.bool f5,.int .i64 lf5,.slice oA oF oH,.int .i64 (y.ep:Int),.int .i64 (y.ar:Int),.int .i64 (y.us:Int),.int .i64 (y.fr:Int)] 42));have BY:=qH vH;have ur:=qH (iS.out.below au);have af:=aD.out.below ax.out aD.out.lt;have zl:=af.lt;obtain⟨z0,z1,z2,z3,z4,z5,z6,z7,z8,z9,aX⟩:=cl11 af;clear af au vH C0;go_wp2_with (refine wpList_store_row rfl 42 (.tmp 2) (.tmp 87) rfl g2 #[.slice fM fF ft,.slice fK fL fD,.int .i64 fI,.int .i64 fh,.bool f5,.int .i64 lf5,.slice oA oF oH,.int .i64 (y.ep:Int),.int .i64 (y.ar:Int),.int .i64 (y.us:Int),.int .i64 (y.fr:Int)] rfl rfl 42 #[.slice aS nS cS,.slice aL nL cL,.int .i64 cw,.int .i64 cf,.bool f,.int .i64 lf,.slice aR nR cR,.int .i64 (x.ep:Int),.int .i64 (x.ar:Int),.int .i64 (x.us:Int),.int .i64 (x.fr:Int)] ?hg (elv42 _ _ _ _ _ _ _ _ _ _ _) rfl (all11 _ _ _ _ _ _ _ _ _ _ _ _ _ _ _ _ _) ?_;(case hg=>exact G3.out);obtain⟨wT,hwT,fo,F3,jq⟩:∃wT,wT=(w5.alloc (Obj.cells #[.slice fM fF ft,.slice fK fL fD,.int .i64 fI,.int .i64 fh,.bool f5,.int .i64 lf5,.slice oA oF oH,.int .i64 (y.ep:Int),.int .i64 (y.ar:Int),.int .i64 (y.us:Int),.int .i64 (y.fr:Int)] 42)).setRow g2 #[.slice fM fF ft,.slice fK fL fD,.int .i64 fI,.int .i64 fh,.bool f5,.int .i64 lf5,.slice oA oF oH,.int .i64 (y.ep:Int),.int .i64 (y.ar:Int),.int .i64 (y.us:Int),.int .i64 (y.fr:Int)]∧Dv.Blk wT g2 42 #[.slice fM fF ft,.slice fK fL fD,.int .i64 fI,.int .i64 fh,.bool f5,.int .i64 lf5,.slice oA oF oH,.int .i64 (y.ep:Int),.int .i64 (y.ar:Int),.int .i64 (y.us:Int),.int .i64 (y.fr:Int)]∧Dv.Blk wT g4 42 #[.slice none 0 0,.slice none 0 0,.int .i64 0,.int .i64 0,.bool false,.int .i64 0,.slice none 0 0,.int .i64 0,.int .i64 0,.int .i64 0,.int .i64 0]∧Fr (fun q=>q=g2) w5 wT:=⟨_,rfl,row_blk G3.out _,((bw.out.below ax.out bw.out.lt).alloc (Obj.cells #[.slice fM fF ft,.slice fK fL fD,.int .i64 fI,.int .i64 fh,.bool f5,.int .i64 lf5,.slice oA oF oH,.int .i64 (y.ep:Int),.int .i64 (y.ar:Int),.int .i64 (y.us:Int),.int .i64 (y.fr:Int)] 42)).same (setRow_other _ g2 g4 _ dy),((Fr.refl (fun q=>q=g2) w5).alloc (Obj.cells #[.slice fM fF ft,.slice fK fL fD,.int .i64 fI,.int .i64 fh,.bool f5,.int .i64 lf5,.slice oA oF oH,.int .i64 (y.ep:Int),.int .i64 (y.ar:Int),.int .i64 (y.us:Int),.int .i64 (y.fr:Int)] 42)).trans (row_fr _ g2 _) (fun q hq=> .inl hq)⟩;rw[←hwT];clear hwT z0 z1 z2 z3 z4 z5 z6 z7 z8 z9 aX;have k8:=qH fo;have po:=qH F3;have j3:=qH jq;have zl:=fo.lt;have z0:=fo.cell 0;have z1:=fo.cell 1;have z2:=fo.cell 2;have z3:=fo.cell 3;have z4:=fo.cell 4;have z5:=fo.cell 5;have z6:=fo.cell 6;have z7:=fo.cell 7;have z8:=fo.cell 8;have z9:=fo.cell 9;have aX:=fo.cell 10;simp at z0 z1 z2 z3 z4 z5 z6 z7 z8 z9 aX;clear fo F3 jq)
 have ju:=qH (aw.out.trans (((Fr.of_below (D:=fun q=>q=g2) ax.out).trans j3.out (fun q hq=> .inl hq)).below (fun q hq=>by have:=HG2.out;omega) aw.out.size));have tY:∀q,q=g2→g2≤q∧q<g2+2:=fun q hq=>by omega
 have Cl:=qH (BY.out.st j3.out tY);have fX:=qH (ur.out.st j3.out tY);have Cz:=qH (fun q hq=>Nat.lt_of_lt_of_le (jK.out _ ax.out q hq) j3.out.size);clear tY;have ko:=refParts_any (y.ep:Int) (y.fr:Int) _ cs wT (Bn.out _ ju.out) hcb (by omega);obtain⟨⟨B,B2⟩,hB⟩:∃PL,PL=partsL (y.ep:Int) (y.fr:Int) cs:=⟨_,rfl⟩
 rw[←hB] at ko;have Ed:B.length≤200:=by have:=parts_len (y.ep:Int) (y.fr:Int) cs;rw[←hB] at this;exact this
 have s8:=qH ko;have dd:=qH hB;clear ko hB;refine s8.out.mono ?_;rintro e w6⟨bv,rfl,hop,ap⟩;obtain⟨Ab,cb,rfl,bN,bT⟩:=hop.shape;have wQ:=qH (OP.rp hop);have aE:=qH ap;have af:=k8.out.below ap k8.out.lt;have zl:=af.lt;obtain⟨z0,z1,z2,z3,z4,z5,z6,z7,z8,z9,aX⟩:=cl11 af;obtain⟨W7,iB⟩:∃W7,W7=w6.alloc (Obj.cells #[.slice fM fF ft,.slice fK fL fD,.int .i64 fI,.int .i64 fh,.bool f5,.int .i64 lf5] 29):=⟨_,rfl⟩
 have br:Below w6.heap.size w6 W7:=by rw[iB];exact(Below.refl _ _).alloc (Nat.le_refl _) _
 have gz:Below wT.heap.size wT W7:=ap.trans (br.mono ap.size);obtain⟨g17,dz⟩:∃g17,g17=w6.heap.size:=⟨_,rfl⟩
 have oN:W7.heap.size=g17+1:=by rw[iB,dz];simp
 have jy:Dv.Blk W7 g17 29 #[.slice fM fF ft,.slice fK fL fD,.int .i64 fI,.int .i64 fh,.bool f5,.int .i64 lf5]:=by rw[iB,dz];exact heap_alloc_new w6 _
 have htd:=(Cl.out.below ap).up_ (n:=g17) (m:=g17+1) br (by omega);have jm:=qH (show BoxT (Up (Up A g2 (g2+2)) g17 (g17+1)) W7 g17 y.d from⟨_,_,_,_,_,_,_,_,_,_,jy,htd⟩);have BN:=qH (show ∀k,Up (Up A g2 (g2+2)) g17 (g17+1) k→k<W7.heap.size from fun k hk=>by
  rcases hk with hk|hk
  ·exact Nat.lt_of_lt_of_le (Cz.out k hk) gz.size
  ·omega)
 have tc:=qH iB;have bo:=qH br;have si:=qH gz;have jd:=qH dz;have uu:=qH oN;have m4:=qH (k8.out.below gz k8.out.lt);have gV:g2<g17:=by have:=(k8.out.below ap k8.out.lt).lt;omega
 have jT:g4<g17:=by have:=(po.out.below ap po.out.lt).lt;omega
 have kJ:=qH (po.out.below gz po.out.lt);have yU:=qH ((fX.out.below ap).up_ (n:=g17) (m:=g17+1) br (by omega));obtain⟨L,hL⟩:∃L,L=B.length:=⟨_,rfl⟩
 rw[←hL] at Ed;have tH:=qH hL;obtain⟨SS,gd⟩:∃SS:Nat→Sim,SS=fun m=>writeL y.d (2+y.us) B m:=⟨_,rfl⟩
 have D5:=qH (show SS 0=y.d by rw[gd];rfl);have i7:=qH (show ∀m,SS (m+1)=(SS m).write ((2+y.us+m:Nat):Int) (B.getD m []) from fun m=>by rw[gd];rfl);have oQ:=qH (show ∀m,m≤300→OK (SS m)∧(SS m).loose.length<60000 from fun m hm=>by
  rw[gd];exact⟨ok_writeL8 rj.out.1 _ _ m (by have:=rj.out.2;omega),(by have:=writeL_loose y.d (2+y.us) B m;have:=rj.out.2;show(writeL y.d (2+y.us) B m).loose.length<60000;omega)⟩)
 have pQ:=qH (show putS y cs={d:=(SS L).flush,rows:=applyL y.rows cs,ep:=y.ep,ar:=y.ar,us:=y.us+L,fr:=y.fr+1} by unfold putS;rw[←dd.out,gd,hL]);rw[←D5.out] at jm;rw[←hL];clear hop ap br gz oN jy htd iB bN bT af gd hL;go_wp2_with fail
 rw[←tc.out,←dz];clear dz
 go_loopw [18] (fun i wr=>∃k:Nat,k≤L∧i= .int .i64 k∧BoxT (Up (Up A g2 (g2+2)) g17 (g17+1)) wr g17 (SS k)∧Fr (fun j=>j=g17) W7 wr) (fun i _=>L-(intOf i).toNat)
 case atStart=>exact⟨0,Nat.zero_le _,rfl,jm.out,Fr.refl _ _⟩
 case round=>
  obtain⟨k,hk,rfl,bA,ay⟩:=hrel;obtain⟨aS,nS,cS,aL,nL,cL,cw,cf,f,lf,hblk,htr⟩:=bA;have bG:=oQ.out k (by omega);have kG:=fun q hq=>Nat.lt_of_lt_of_le (BN.out q hq) ay.size
  have hk2:=m4.out.same (ay.block g2 m4.out.lt (by omega));have ic:=qH hk2;have dr:=qH ay;by_cases hlt:k<L
  ·have zK:k<B.length:=by rw[←tH.out];exact hlt
   obtain⟨bP,oP,u,rfl,mf,hu,bi⟩:=rp_at wQ.out zK;have wy:bP<g17:=by rw[jd.out];exact mf
   have tb:wr.cell? ⟨bP,oP+k,none⟩=some u:=(World.cell?_of_block (a:=⟨bP,oP+k,none⟩) (ay.block bP (by have:=uu.out;omega) (by omega))).trans ((bo.out.cell (p:=⟨bP,oP+k,none⟩) mf).trans hu);have kL:RB wr u B[k]:=RB.fr (bi.below bo.out) ay (fun hl q hq hd=>by have:=RB.lt_ bi hl hq;have:=jd.out;omega);have hgd:B.getD k []=B[k]:=by rw[List.getD_eq_getElem?_getD,List.getElem?_eq_getElem zK];rfl
   have hnx:=i7.out k;rw[hgd] at hnx;have hwr:=fun(X:World) (hX:Below wr.heap.size wr X)=>wr8_any (((2+y.us+k:Nat):Int)) B[k] (htr.below hX) bG.1 (fun q hq=>Nat.lt_of_lt_of_le (kG q hq) hX.size) (by omega) (kL.below hX)
   rw[←hnx,show((2+y.us+k:Nat):Int)=2+(y.us:Int)+(k:Int) by omega] at hwr;obtain⟨s2,hs2⟩:∃s2,s2=SS (k+1):=⟨_,rfl⟩
   rw[←hs2] at hwr;obtain⟨Au,cu,ah⟩:=rb_shape kL;obtain⟨nu,nl⟩:∃nu,nu=B[k].length:=⟨_,rfl⟩
   rw[←nl] at ah;subst ah;have iK:=qH hwr;have fE:=qH hs2;have az:=qH hblk;have HU:=qH tb;have fZ:=qH (show bP≠g17 by omega);have my:bP<wr.heap.size:=World.block_lt_of_cell? wr _ tb;have hx1:IntKind.i64.wrap (2+(y.us:Int))=2+(y.us:Int):=by rw[IntKind.wrap_i64];omega
   have hx2:IntKind.i64.wrap (2+(y.us:Int)+(k:Int))=2+(y.us:Int)+(k:Int):=by rw[IntKind.wrap_i64];omega
   obtain⟨y0,y1,y2,y3,y4,y5⟩:=cl6 hblk;have q1:(0:Int)≤(k:Int):=by omega
   have q2:(k:Int)<(L:Int):=by omega
   clear hblk htr bG kG hk2 ay mf hu bi tb kL hgd hnx hwr hs2 nl;go_wp2_with fail
   refine wp_region_held_drew (S:=fun X=>Fr (fun q=>q=g17) wr X) (by kernel_rfl) ((Fr.refl _ _).drew) (fun hHeld=>?_);refine tkC 1 ?_;refine tkA 2 (v:=?_) ?_ ?_;rotate_left
   ·intro W hSw;have hq:=(World.cell?_of_block (a:=⟨g2,9,none⟩) (hSw.block g2 ic.out.lt (by omega))).trans (ic.out.cell 9);simp at hq;go_simp;try (with_reducible rfl)
   try simp only[Act.put,zA,zB,zC]
   refine tkC 3 ?_;refine tkC 4 ?_;refine tkC 5 ?_;refine tkC 6 ?_;refine tkC 7 ?_;refine tkC 8 ?_;refine tkA 9 (v:=?_) ?_ ?_;rotate_left
   ·intro W hSw;have hq:=(World.cell?_of_block (a:=⟨bP,oP+k,none⟩) (hSw.block bP my fZ.out)).trans HU.out;go_simp;try (with_reducible rfl)
   try simp only[Act.put,zA,zB,zC]
   refine rdA (rs:= [0]) ?_;refine arC (fun K hK=>?_);go_simp;refine hK.out _ _ ?_ (fun _=>?_)
   ·exact hHeld
   clear hK K;try simp only[Act.put,zA,zB,zC]
   refine rdA (rs:= [10]) ?_;refine arC (fun K hK=>?_);go_simp;refine(iK.out _ ((Below.refl wr.heap.size wr).drew)).mono ?_;rintro e w9⟨Bg,rfl,je,fx⟩;obtain⟨gR,gj,g9,gP,gb,gX,gk,gT,f9,lf9,rfl⟩:=je.sixn;have pM:=qH je;have th:Below wr.heap.size wr w9:=((Below.refl wr.heap.size wr).drew).trans fx;have fG:=qH th;clear je fx;refine hK.out _ _ ?_ (fun hHeld=>?_)
   ·exact(Fr.of_below fG.out)
   clear hK K;try simp only[Act.put,zA,zB,zC]
   refine rdA (rs:= [11]) ?_;refine arC (fun K hK=>?_);have bD:=az.out.below fG.out az.out.lt;clear y0 y1 y2 y3 y4 y5;obtain⟨y0,y1,y2,y3,y4,y5⟩:=cl6 bD;have df:=bD.frozen;have dl:=bD.lt;go_simp;try rw[six_def]
   refine hK.out _ _ ?_ (fun hHeld=>?_)
   ·exact((Fr.of_below fG.out).trans (six_fr w9 g17 (.slice gR gj g9) (.slice gP gb gX) (.int .i64 gk) (.int .i64 gT) (.bool f9) (.int .i64 lf9)) (fun q hq=> .inl hq))
   clear hK K;try simp only[Act.put,zA,zB,zC]
   refine wpAnyH_done (by kernel_rfl) ?_ _;have kp:=qH (BoxT.store (az.out.below fG.out az.out.lt) pM.out (.inr ⟨Nat.le_refl _,by omega⟩));rw[fE.out] at kp;have ts:=qH (dr.out.trans ((Fr.of_below (D:=fun q=>q=g17) fG.out).trans (six_fr w9 g17 (.slice gR gj g9) (.slice gP gb gX) (.int .i64 gk) (.int .i64 gT) (.bool f9) (.int .i64 lf9)) (fun q hq=> .inl hq)) (fun q hq=> .inl hq));generalize (sixC w9 g17 (.slice gR gj g9) (.slice gP gb gX) (.int .i64 gk) (.int .i64 gT) (.bool f9) (.int .i64 lf9))=wf at kp ts hHeld⊢;clear hHeld;go_wp2;go_roundw
   case rel=>exact⟨k+1,by omega,by go_num,kp.out,ts.out⟩
   case measure=>simp[intOf];omega
  ·have hkk:k=L:=by omega
   subst hkk;have hfl:=refflush_any htr bG.1 kG;obtain⟨s2,hs2⟩:∃s2,s2=(SS k).flush:=⟨_,rfl⟩
   rw[←hs2] at hfl;have iJ:=qH hfl;have fE:=qH hs2;have az:=qH hblk;obtain⟨y0,y1,y2,y3,y4,y5⟩:=cl6 hblk;clear hblk htr bG kG hfl hs2;go_wp2_with fail
   go_at_call 44;refine iJ.out.mono ?_;rintro e w8⟨Gw,rfl,tV,cz⟩;obtain⟨fa,eK,eX,eU,eL,eO,eM,eZ,lB,eQ,rfl⟩:=tV.sixn;have CJ:=qH tV;have nT:=qH (ic.out.below cz ic.out.lt);have tg:=qH ((kJ.out.same (dr.out.block g4 kJ.out.lt (by omega))).below cz (Nat.lt_of_lt_of_le kJ.out.lt dr.out.size));have nm:=qH (dr.out.trans (Fr.of_below (D:=fun q=>q=g17) cz) (fun q hq=> .inl hq));have af:=nT.out;have zl:=af.lt;have zf:=af.frozen;have z0:=af.cell 0;have z1:=af.cell 1;have z2:=af.cell 2;have z3:=af.cell 3;have z4:=af.cell 4;have z5:=af.cell 5;simp at z0 z1 z2 z3 z4 z5;clear tV cz af;go_wp2_with (first|(rw[six_def];obtain⟨wA,zI,dY,nd,xN⟩:∃wA,wA=sixC w8 g2 (.slice fa eK eX) (.slice eU eL eO) (.int .i64 eM) (.int .i64 eZ) (.bool lB) (.int .i64 eQ)∧Dv.Blk wA g2 42 #[.slice fa eK eX,.slice eU eL eO,.int .i64 eM,.int .i64 eZ,.bool lB,.int .i64 eQ,.slice oA oF oH,.int .i64 (y.ep:Int),.int .i64 (y.ar:Int),.int .i64 (y.us:Int),.int .i64 (y.fr:Int)]∧Dv.Blk wA g4 42 #[.slice none 0 0,.slice none 0 0,.int .i64 0,.int .i64 0,.bool false,.int .i64 0,.slice none 0 0,.int .i64 0,.int .i64 0,.int .i64 0,.int .i64 0]∧Fr (fun q=>q=g2) w8 wA:=⟨_,rfl,six11 nT.out _ _ _ _ _ _,six_far tg.out dy _ _ _ _ _ _,six_fr _ _ _ _ _ _ _ _⟩;rw[←zI];clear zI z0 z1 z2 z3 z4 z5 zl zf;have Ki:=qH dY;have mX:=qH nd;have ui:=qH xN;have zl:=dY.lt;have zf:=dY.frozen;have z0:=dY.cell 0;have z1:=dY.cell 1;have z2:=dY.cell 2;have z3:=dY.cell 3;have z4:=dY.cell 4;have z5:=dY.cell 5;have z6:=dY.cell 6;have z7:=dY.cell 7;have z8:=dY.cell 8;have z9:=dY.cell 9;have aX:=dY.cell 10;simp at z0 z1 z2 z3 z4 z5 z6 z7 z8 z9 aX;clear dY nd xN)|(refine wpList_store_row rfl 42 (.tmp 4) (.tmp 131) rfl g4 #[.slice fa eK eX,.slice eU eL eO,.int .i64 eM,.int .i64 eZ,.bool lB,.int .i64 eQ,.slice A2 L2.length c2,.int .i64 (y.ep:Int),.int .i64 (y.ar:Int),.int .i64 ((y.us:Int)+(k:Int)),.int .i64 ((y.fr:Int)+1)] rfl rfl 42 #[.slice none 0 0,.slice none 0 0,.int .i64 0,.int .i64 0,.bool false,.int .i64 0,.slice none 0 0,.int .i64 0,.int .i64 0,.int .i64 0,.int .i64 0] ?hg (elv42 _ _ _ _ _ _ _ _ _ _ _) rfl (all11 _ _ _ _ _ _ _ _ _ _ _ _ _ _ _ _ _) ?_;case hg=>exact(((mX.out.far (p:=⟨g2,6,none⟩) dy (.slice A2 L2.length c2)).far (p:=⟨g2,9,none⟩) dy (.int .i64 ((y.us:Int)+(k:Int)))).far (p:=⟨g2,10,none⟩) dy (.int .i64 ((y.fr:Int)+1))))|(refine bodyPost_ret (v:= .tuple #[.agg #[.slice fa eK eX,.slice eU eL eO,.int .i64 eM,.int .i64 eZ,.bool lB,.int .i64 eQ,.slice A2 L2.length c2,.int .i64 (y.ep:Int),.int .i64 (y.ar:Int),.int .i64 ((y.us:Int)+(k:Int)),.int .i64 ((y.fr:Int)+1)],.int .i64 0]) (leaveC8 rfl rfl (row_blk ((((mX.out.far (p:=⟨g2,6,none⟩) dy (.slice A2 L2.length c2)).far (p:=⟨g2,9,none⟩) dy (.int .i64 ((y.us:Int)+(k:Int)))).far (p:=⟨g2,10,none⟩) dy (.int .i64 ((y.fr:Int)+1)))) _)) rfl ?_))
   have hg2:=HG2.out;have hg4:=ci.out;have tN:=(((ui.out.setCell (p:=⟨g2,6,none⟩) (.inl rfl) (.slice A2 L2.length c2)).setCell (p:=⟨g2,9,none⟩) (.inl rfl) (.int .i64 ((y.us:Int)+(k:Int)))).setCell (p:=⟨g2,10,none⟩) (.inl rfl) (.int .i64 ((y.fr:Int)+1)))
   have fi:=qH ((tN.mono (E:=fun q=>q=g2∨q=g4) (fun q hq=> .inl hq)).trans (row_fr _ g4 #[.slice fa eK eX,.slice eU eL eO,.int .i64 eM,.int .i64 eZ,.bool lB,.int .i64 eQ,.slice A2 L2.length c2,.int .i64 (y.ep:Int),.int .i64 (y.ar:Int),.int .i64 ((y.us:Int)+(k:Int)),.int .i64 ((y.fr:Int)+1)]) (fun q hq=> .inl (.inr hq)));have hin:∀q,(q=g2∨q=g4)→Up (Up A g2 (g2+2)) g17 (g17+1) q:=fun q hq=> .inl (.inr (by omega))
   refine⟨_,rfl,?_,ju.out.trans ((((Fr.of_below (D:=fun q=>(q=g2∨q=g4)∨q=g17) si.out).trans (nm.out.mono (E:=fun q=>(q=g2∨q=g4)∨q=g17) (fun q hq=> .inr hq)) (fun q hq=> .inl hq)).trans fi.out (fun q hq=> .inl (.inl hq))).below (fun q hq=>by have:=ju.out.size;have:=jd.out;have:=aE.out.size;rcases hq with (hq|hq)|hq <;>omega) ju.out.size)⟩;rw[←HY.out,pQ.out];have eC:L2=applyL y.rows cs:=by first|exact nQ.out|(rw[Cq.out];exact nQ.out)
   refine⟨fa,eK,eX,eU,eL,eO,eM,eZ,lB,eQ,A2,L2.length,c2,rfl,?_,?_⟩
   ·rw[←fE.out]
    exact CJ.out.fr fi.out hin (fun q hq=> .inl (.inl (.inl hq)))
   ·rw[←eC]
    exact(yU.out.st nm.out (fun q hq=>by omega)).fr fi.out hin (fun q hq=> .inl (.inl (.inl hq)))
theorem commit8_any{A:Nat→Prop}{w:World}{tv lv:Value}{x:Ss}{cs:List Chg}(h:TRs A w tv x)(hA:∀k,A k→k<w.heap.size)(hc:CRd A w lv cs)(hG:GoodX x)(hcb:(chgsB cs).length≤100000000)(hcs:cs.length≤100000):
  Calls Tryz.prog 24 #[tv,lv] w (GivesT8 A w (commitR x cs).1 (commitR x cs).2):=by
 by_cases h1:cs= []
 ·have he:commitR x cs=(x,0):=by unfold commitR;rw[if_pos h1]
  rw[he];exact commit8_nil h hA hc h1
 cases h2:cs.any longC with
 |true=>
  have he:commitR x cs=(x,3):=by unfold commitR;rw[if_neg h1,if_pos h2]
  rw[he];exact commit8_long h hA hc h1 h2
 |false=>
 have h2':¬cs.any longC=true:=by rw[h2];decide
 by_cases h3:(partsL (x.ep:Int) (x.fr:Int) cs).2=false∨jN x.n<(partsL (x.ep:Int) (x.fr:Int) cs).1.length
 ·have he:commitR x cs=(x,21):=by unfold commitR;rw[if_neg h1,if_neg h2',if_pos h3]
  rw[he];exact commit8_full h hA hc h1 h2 hG hcb hcs (.inr h3)
 have rS:(partsL (x.ep:Int) (x.fr:Int) cs).2=true:=by
  cases hh:(partsL (x.ep:Int) (x.fr:Int) cs).2 with
  |true=>rfl
  |false=>exact absurd (.inl hh) h3
 have qX:(partsL (x.ep:Int) (x.fr:Int) cs).1.length≤jN x.n:=by
  rcases Nat.lt_or_ge (jN x.n) (partsL (x.ep:Int) (x.fr:Int) cs).1.length with hh|hh
  ·exact absurd (.inr hh) h3
  ·exact hh
 cases h4:fitB x.n (applyL x.rows cs) with
 |false=>
  have he:commitR x cs=(x,21):=by unfold commitR;rw[if_neg h1,if_neg h2',if_neg h3,if_pos h4]
  rw[he];exact commit8_full h hA hc h1 h2 hG hcb hcs (.inl h4)
 |true=>
 have h4':¬fitB x.n (applyL x.rows cs)=false:=by rw[h4];decide
 by_cases h5:x.us+(partsL (x.ep:Int) (x.fr:Int) cs).1.length≤jN x.n
 ·have he:commitR x cs=(putS x cs,0):=by unfold commitR;rw[if_neg h1,if_neg h2',if_neg h3,if_neg h4',if_pos h5]
  rw[he];exact commit8_put h hA hc h1 h2 hG hcb hcs rS qX h4 h5
 have qd:jN x.n<x.us+(partsL (x.ep:Int) (x.fr:Int) cs).1.length:=Nat.lt_of_not_le h5;by_cases h6:x.ep=1073741824
 ·have he:commitR x cs=(x,32):=by unfold commitR;rw[if_neg h1,if_neg h2',if_neg h3,if_neg h4',if_neg h5,if_pos h6]
  rw[he];exact commit8_over h hA hc h1 h2 hG hcb hcs rS qX h4 qd h6
 ·have he:commitR x cs=(putS (ckS x) cs,0):=by unfold commitR;rw[if_neg h1,if_neg h2',if_neg h3,if_neg h4',if_neg h5,if_neg h6]
  rw[he];exact commit8_ck h hA hc h1 h2 hG hcb hcs rS qX h4 qd (by have:=hG.ep;omega)
theorem same8_any{A M:Nat→Prop}{w:World}{sv tv:Value}{dg:Nat}{x:Ss}(hs:Sto dg M w sv x)(hG:GoodX x)(h:TRs A w tv x):
  Calls Tryz.prog 16 #[sv,tv] w fun e w'=>e= .returned (.bool true)∧Below w.heap.size w w':=by
 obtain⟨aS,nS,cS,aL,nL,cL,cw,cf,f,lf,aR,nR,cR,rfl,hT0,eW⟩:=h;obtain⟨W1,hW1⟩:∃W1,W1=w.alloc (Obj.cells #[.slice aS nS cS,.slice aL nL cL,.int .i64 cw,.int .i64 cf,.bool f,.int .i64 lf,.slice aR nR cR,.int .i64 (x.ep:Int),.int .i64 (x.ar:Int),.int .i64 (x.us:Int),.int .i64 (x.fr:Int)] 42):=⟨_,rfl⟩
 have aj:Below w.heap.size w W1:=by rw[hW1];exact(Below.refl _ _).alloc (Nat.le_refl _) _
 have hb1:Dv.Blk W1 w.heap.size 42 #[.slice aS nS cS,.slice aL nL cL,.int .i64 cw,.int .i64 cf,.bool f,.int .i64 lf,.slice aR nR cR,.int .i64 (x.ep:Int),.int .i64 (x.ar:Int),.int .i64 (x.us:Int),.int .i64 (x.fr:Int)]:=by rw[hW1];exact heap_alloc_new w _
 have hrows:=fun(X:World) (hX:Below W1.heap.size W1 X)=>rowsS_any ((hs.below aj).below hX) (by have:=(rows_few_ hG).2;omega) (fun r hr=>by have:=rows_val hG r hr;omega)
 have ah:=fun(X:World) (hX:Below W1.heap.size W1 X)=>used_any ((hs.below aj).below hX)
 have fg:=fun(X:World) (hX:Below W1.heap.size W1 X)=>epoch_any ((hs.below aj).below hX)
 obtain⟨g,oT⟩:∃g,sv= .pointer (some ⟨g,0,none⟩):=by
  obtain⟨D,R,g,rv,h1,_⟩:=hs;exact⟨g,h1⟩
 subst oT;have jB:=qH hrows;have ce:=qH ah;have rd:=qH fg;have aD:=qH hb1;have aw:=qH aj;have dU:=qH hW1;have bM:=qH (eW.below aj);have hlen:=(rows_few_ hG).2;clear hs hG hT0 eW hrows ah fg hb1 aj hW1;go_enter Tryz.func16,Tryz.ntmps16;go_wp2_with fail
 rw[←dU.out];go_wp2_with fail
 refine wp_region_held_drew (S:=SB [W1]) (by kernel_rfl) (SB.start _) (fun hHeld=>?_);refine tkC 0 ?_;refine tkC 2 ?_;refine tkA 3 (v:=?_) ?_ ?_;rotate_left
 ·intro W hSw;have hq:=((SB.b0 hSw).cell (p:=⟨w.heap.size,6,none⟩) aD.out.lt).trans (aD.out.cell 6);simp at hq;go_simp;try (with_reducible rfl)
 try simp only[Act.put,zA,zB,zC]
 refine rdA (rs:= [1]) ?_;refine arC (fun K hK=>?_);go_simp;refine(jB.out _ (SB.b0 hHeld)).mono ?_;rintro e w2⟨rv,rfl,aK,bg⟩;have da:=qH aK;obtain⟨Ar,cr,rfl⟩:=or_shape aK;clear aK;try (go_wp2_with fail)
 have ac:=SB.step hHeld bg;refine hK.out _ _ ?_ (fun _=>?_)
 ·exact ac
 clear hK K;try simp only[Act.put,zA,zB,zC]
 have hHeld:=SB.more ac;clear ac;refine wpAnyH_more (S':=SB [w2,W1]) (fun W h=>SB.less W h) _ _ _ _ ?_;refine rdA (rs:= [4]) ?_;refine arC (fun K hK=>?_);go_simp;refine(sameRows_any _ _ x.rows _ da.out.rr (bM.out.below ((SB.b1 hHeld))).rr).mono ?_;rintro e w3⟨rfl,Fv⟩;have aZ:Below w2.heap.size w2 w3:=by obtain⟨m,rfl⟩:=Fv;exact⟨rfl,rfl,rfl,Nat.le_refl _,fun _ _=>rfl⟩
 clear Fv;try (go_wp2_with fail)
 have ac:=SB.step hHeld aZ;refine hK.out _ _ ?_ (fun _=>?_)
 ·exact ac
 clear hK K;try simp only[Act.put,zA,zB,zC]
 have hHeld:=SB.more ac;clear ac;refine wpAnyH_more (S':=SB [w3,w2,W1]) (fun W h=>SB.less W h) _ _ _ _ ?_;refine tkC 5 ?_;refine tkC 6 ?_;refine tkC 8 ?_;refine tkA 9 (v:=?_) ?_ ?_;rotate_left
 ·intro W hSw;have hq:=((SB.b2 hSw).cell (p:=⟨w.heap.size,9,none⟩) aD.out.lt).trans (aD.out.cell 9);simp at hq;go_simp;try (with_reducible rfl)
 try simp only[Act.put,zA,zB,zC]
 refine rdA (rs:= [7]) ?_;refine arC (fun K hK=>?_);go_simp;refine(ce.out _ (SB.b2 hHeld)).mono ?_;rintro e wq⟨rfl,rfl⟩;try (go_wp2_with fail)
 refine hK.out _ _ ?_ (fun _=>?_)
 ·exact hHeld
 clear hK K;try simp only[Act.put,zA,zB,zC]
 refine tkC 10 ?_;refine tkC 11 ?_;refine tkC 12 ?_;refine tkC 13 ?_;refine tkC 15 ?_;refine tkA 16 (v:=?_) ?_ ?_;rotate_left
 ·intro W hSw;have hq:=((SB.b2 hSw).cell (p:=⟨w.heap.size,7,none⟩) aD.out.lt).trans (aD.out.cell 7);simp at hq;go_simp;try (with_reducible rfl)
 try simp only[Act.put,zA,zB,zC]
 refine rdA (rs:= [14]) ?_;refine arC (fun K hK=>?_);go_simp;refine(rd.out _ (SB.b2 hHeld)).mono ?_;rintro e wq⟨rfl,rfl⟩;try (go_wp2_with fail)
 refine hK.out _ _ ?_ (fun _=>?_)
 ·exact hHeld
 clear hK K;try simp only[Act.put,zA,zB,zC]
 refine tkC 17 ?_;refine tkC 18 ?_;refine tkC 19 ?_;refine wpAnyH_done (by kernel_rfl) ?_ _;have fG:=qH (SB.b2 hHeld);clear hHeld;go_wp2;go_ret;exact⟨rfl,aw.out.trans (fG.out.mono aw.out.size)⟩
def pagesR(s:Sim)(F k:Nat):List (List UInt8):=(List.range k).map fun i=>(secsL s (F+i*4) 4).flatten
theorem pagesR_succ(s:Sim)(F k:Nat):pagesR s F (k+1)=pagesR s F k++ [(secsL s (F+k*4) 4).flatten]:=by
 unfold pagesR;rw[List.range_succ,List.map_append];rfl
theorem pagesR_len(s:Sim)(F k:Nat):(pagesR s F k).length=k:=by simp[pagesR]
theorem secs_flat{s:Sim}(hok:OK s):∀(n a:Nat),a+n≤s.firm.length→(secsL s a n).flatten.length=64*n
 |0,a,_=>rfl
 |n+1,a,h=>by
  rw[secsL_succ,List.flatten_append,List.length_append,secs_flat hok n a (by omega)];have:=hok.read (i:=a+n) (by omega);simp[this];omega
theorem secs_add(s:Sim)(a m:Nat):∀n,secsL s a (m+n)=secsL s a m++secsL s (a+m) n
 |0=>by simp[secsL]
 |n+1=>by rw[←Nat.add_assoc,secsL_succ,secs_add s a m n,secsL_succ,List.append_assoc,Nat.add_assoc]
theorem pagesR_flat(s:Sim)(F:Nat):∀k,(pagesR s F k).flatten=(secsL s F (k*4)).flatten
 |0=>rfl
 |k+1=>by rw[pagesR_succ,List.flatten_append,pagesR_flat s F k,show(k+1)*4=k*4+4 by omega,secs_add,List.flatten_append];simp
theorem pagesR_all{s:Sim}(hok:OK s){F k:Nat}(h:F+k*4≤s.firm.length):pagesR s F k=chunkL256 (secsL s F (k*4)).flatten:=by
 rw[←pagesR_flat,chunk256_pages];intro p hp;unfold pagesR at hp;obtain⟨i,hi,rfl⟩:=List.mem_map.1 hp;rw[List.mem_range] at hi;rw[secs_flat hok 4 _ (by omega)]
theorem secs_cut(s:Sim)(a:Nat){k n:Nat}(h:k<n):(secsL s a n).getD k []=s.read (a+k):=by
 unfold secsL;rw[List.getD_eq_getElem?_getD,List.getElem?_map,List.getElem?_range h];rfl
theorem rows8_any{A:Nat→Prop}{w:World}{tv:Value}{s:Sim}(ar pg:Nat)(h:TRd A w tv s)(hok:OK s)(hn:64≤s.firm.length)(har:ar≤1)(gB:pg≤aN s.firm.length):
  Calls Tryz.prog 54 #[tv,.int .i64 (ar:Int),.int .i64 (pg:Int)] w (GivesRwI w (rowsT (laidL s ar pg))):=by
 have HN:=hok.n;have ha:=aN_le s.firm.length;obtain⟨aS,cS,aL,cL,cw,cf,f,lf,rfl⟩:=h.six_;obtain⟨W1,hW1⟩:∃W1,W1=(w.alloc (Obj.cells #[.slice aS s.firm.length cS,.slice aL s.loose.length cL,.int .i64 cw,.int .i64 cf,.bool f,.int .i64 lf] 29)):=⟨_,rfl⟩
 have aj:Below w.heap.size w W1:=by rw[hW1];exact(Below.refl _ _).alloc (Nat.le_refl _) _
 have hk1:Dv.Blk W1 w.heap.size 29 #[.slice aS s.firm.length cS,.slice aL s.loose.length cL,.int .i64 cw,.int .i64 cf,.bool f,.int .i64 lf]:=by rw[hW1];exact heap_alloc_new w _
 obtain⟨n,hne⟩:∃n,n=s.firm.length:=⟨_,rfl⟩
 have hbg:=fun(k:Nat) (hk:k≤600) (X:World)=>begin8_any n ar k (by omega) har (by omega) X
 have uV:=firstN_le (n:=n) (area:=ar) (k:=pg) (by omega) har (by rw[hne];exact gB);have hlaid:laidL s ar pg=pagesR s (firstN n ar) pg:=by unfold laidL;rw[←hne,pagesR_all hok (by rw[←hne];exact uV)]
 obtain⟨F,hF⟩:∃F,F=firstN n ar:=⟨_,rfl⟩
 rw[←hF] at hbg uV hlaid;rw[hlaid];have lN:=fun(X:World) (hX:Below W1.heap.size W1 X) (k:Nat) (hk:k<pg)=>secs8_any (w:=X) (F+k*4) 4 ((h.below aj).below hX) hok (by rw[←hne];omega)
 have ID:pg≤600:=by omega
 have fk:∀k,k<pg→∀i,i<4→(s.read (F+k*4+i)).length=64:=fun k hk i hi=>hok.read (by rw[←hne];omega)
 rw[←hne] at hk1 lN;have jw:=qH lN;have Cp:=qH hbg;have aD:=qH hk1;have aw:=qH aj;rw[←hne] at hW1;have dU:=qH hW1;have dB:=qH fk;have di:n≤4096:=by omega
 rw[←hne];clear h hok hn HN ha aj hk1 hbg hF uV hlaid lN fk gB hW1 hne;go_enter Tryz.func54,Tryz.ntmps54;go_wp2;rw[←dU.out]
 go_loopw [8,9] (fun lv i wr=>∃k:Nat,k≤pg∧i= .int .i64 k∧OP 5 46 wr W1.heap.size lv (pagesR s F k)∧Below W1.heap.size W1 wr) (fun _ i _=>pg-(intOf i).toNat)
 case atStart=>exact⟨0,Nat.zero_le _,rfl,OP.nil_ _ _ _ _,Below.refl _ _⟩
 case round=>
  obtain⟨k,hk,rfl,hop,ad⟩:=hrel;obtain⟨A0,c0,rfl,_,_⟩:=hop.shape;rw[pagesR_len] at hop⊢;have b8:=qH hop;have aG:=qH ad;clear hop ad;by_cases hlt:k<pg
  ·have hlt':(k:Int)<(pg:Int):=by omega
   have lY:=qH (fun X=>Cp.out k (by omega) X);have ru:=qH (fun X (hX:Below W1.heap.size W1 X)=>jw.out X hX k hlt);have l7:=qH (dB.out k hlt);obtain⟨F4,qK⟩:∃F4,F4=F+k*4:=⟨_,rfl⟩
   have hps:=pagesR_succ s F k;rw[←qK] at lY ru l7 hps;have pQ:=qH hps;obtain⟨w0,hw0⟩:∃w0,w0=wr:=⟨_,rfl⟩
   rw[←hw0] at b8 aG⊢;clear hw0 qK hps;go_wp2_with fail
   refine wp_region_held_drew (S:=SB [w0]) (by kernel_rfl) (SB.start _) (fun hHeld=>?_);refine tkA 0 (v:=?_) ?_ ?_;rotate_left
   ·intro W hSw;have hkb:=aD.out.below (aG.out.trans (((SB.b0 hSw)).mono aG.out.size)) aD.out.lt;have z0:=hkb.cell 0;have z1:=hkb.cell 1;have z2:=hkb.cell 2;have z3:=hkb.cell 3;have z4:=hkb.cell 4;have z5:=hkb.cell 5;simp at z0 z1 z2 z3 z4 z5;go_simp;try (with_reducible rfl)
   try simp only[Act.put,zA,zB,zC]
   refine tkC 1 ?_;refine tkA 2 (v:=?_) ?_ ?_;rotate_left
   ·intro W hSw;have hkb:=aD.out.below (aG.out.trans (((SB.b0 hSw)).mono aG.out.size)) aD.out.lt;have z0:=hkb.cell 0;simp at z0;go_simp;try (with_reducible rfl)
   try simp only[Act.put,zA,zB,zC]
   refine tkC 3 ?_;refine tkC 4 ?_;refine tkC 5 ?_;refine rdA (rs:= [6]) ?_;refine arC (fun K hK=>?_);go_simp;refine(lY.out _).mono ?_;rintro e wq⟨rfl,rfl⟩;try (go_wp2_with fail)
   refine hK.out _ _ ?_ (fun _=>?_)
   ·exact hHeld
   clear hK K;try simp only[Act.put,zA,zB,zC]
   refine rdA (rs:= [7]) ?_;refine arC (fun K hK=>?_);go_simp;refine(ru.out _ (aG.out.trans (((SB.b0 hHeld)).mono aG.out.size))).mono ?_;rintro e w5⟨sv,rfl,eu,it⟩;obtain⟨As,Ld,oT,hs1,hs2,_⟩:=id eu;rw[secsL_len] at oT hs1;unfold maxLen at hs2;subst oT;have wQ:=qH eu;clear eu;try (go_wp2_with fail)
   have ac:=SB.step hHeld it;refine hK.out _ _ ?_ (fun _=>?_)
   ·exact ac
   clear hK K;try simp only[Act.put,zA,zB,zC]
   have hHeld:=SB.more ac;clear ac;refine wpAnyH_more (S':=SB [w5,w0]) (fun W h=>SB.less W h) _ _ _ _ ?_;refine tkC 8 ?_;refine wpAnyH_done (by kernel_rfl) ?_ _;have ax:=qH (aG.out.trans ((SB.b1 hHeld).mono aG.out.size));have wV:=qH (b8.out.below (SB.b1 hHeld));clear hHeld;go_wp2_with fail
   go_loopw [10,12] (fun bv i wr=>∃j:Nat,j≤4∧i= .int .i64 j∧wr.ownsRow w5.heap.size 5 1 bv (64*j) (bvs (secsL s F4 j).flatten)∧Below w5.heap.size w5 wr) (fun _ i _=>4-(intOf i).toNat)
   case atStart=>exact⟨0,Nat.zero_le _,rfl,World.ownsRow_nil _ _ _ _,Below.refl _ _⟩
   case round=>
    obtain⟨j,hj,rfl,hown,ad⟩:=hrel;obtain⟨Ab,cb,rfl,_⟩:=own_shape hown;have HOW:=qH hown;have dd:=qH ad;by_cases jT:j<4
    ·obtain⟨bS,oS,u,rfl,EB,hu,bi⟩:=rp_at (rp_below wQ.out ad (Nat.le_refl _)) (k:=j) (by rw[secsL_len];exact jT)
     have hsj:=secs_cut s F4 (k:=j) (n:=4) jT;rw[List.getD_eq_getElem?_getD,List.getElem?_eq_getElem (by rw[secsL_len];exact jT)] at hsj;simp only[Option.getD_some] at hsj;rw[hsj] at bi;have dm:=l7.out j jT;have hsc:=secsL_succ s F4 j;obtain⟨l,hl⟩:∃l,l=s.read (F4+j):=⟨_,rfl⟩
     rw[←hl] at bi dm hsc;have hfl:(secsL s F4 (j+1)).flatten=(secsL s F4 j).flatten++l:=by rw[hsc,List.flatten_append];simp
     have hsrc:=bi.src (tx:=46) Tryz.underlying46;obtain⟨Au,cu,ah⟩:=rb_shape bi;rw[dm] at ah hsrc;subst ah;have cD:=qH hsrc;have iJ:=qH hfl;have q1:(0:Int)≤(j:Int):=by omega
     have q2:(j:Int)<4:=by omega
     clear hown ad bi hsrc hfl hsc hsj hl dm EB;go_wp2_with (at_builtin;refine wpList_own rfl (.tmp 32) (.tmp 36) 46 46 rfl w5.heap.size 5 (.int .u8 0) 1 1 Tryz.underlying46 info5 rfl rfl HOW.out rfl cD.out dd.out (Nat.le_refl _) ?_ ?_ ?_ ?_)
     ·unfold maxLen;omega
     ·omega
     ·exact dd.out.size
     intro v6 w6 dG ap _;rw[←bvs_append,←iJ.out,show 64*j+64=64*(j+1) by omega] at dG;have jZ:=qH dG;have aE:=qH ap;clear dG ap hu;go_wp2;go_roundw
     case rel=>exact⟨j+1,by omega,by go_num,jZ.out,aE.out⟩
     case measure=>simp[intOf];omega
    ·have DU:j=4:=by omega
     subst DU;clear hown ad;have hfl:(secsL s F4 4).flatten.length=256:=by
      have h0:=l7.out 0 (by omega);have h1:=l7.out 1 (by omega);have h2:=l7.out 2 (by omega);have h3:=l7.out 3 (by omega);show((s.read (F4+0))++((s.read (F4+1))++((s.read (F4+2))++((s.read (F4+3))++ [])))).length=256;simp only[List.length_append,List.length_nil];omega
     have bB:FB 5 wr w5.heap.size (.slice Ab (64*4) cb) (secsL s F4 4).flatten:=FB.own (l:=(secsL s F4 4).flatten) (by rw[hfl];exact HOW.out);obtain⟨us,ah,ho0,ii⟩:=wV.out.below dd.out;have ap:=(Below.refl wr.heap.size wr).alloc (Nat.le_refl _) (Obj.cells #[.slice Ab (64*4) cb] 46);have hbb:Below W1.heap.size W1 wr:=ax.out.trans (dd.out.mono ax.out.size);have dh:=qH (hbb.trans (ap.mono hbb.size));have dn:=(bB.base_ (base':=W1.heap.size) ax.out.size).below ap;have mu:OP 5 46 (wr.alloc (Obj.cells #[.slice Ab (64*4) cb] 46)) W1.heap.size (.slice A0 k c0) (pagesR s F k):=(wV.out.below dd.out).below ap;obtain⟨us,ah,ho,hf⟩:=mu;have bt:=qH (show us.length=k by have h:=congrArg List.length ah;rw[List.length_map,pagesR_len] at h;exact h);rw[bt.out] at ho;have HO:=qH ho;have HF:=qH hf;have ce:=qH ah;have fi:=qH dn;have i7:=qH (src_one wr Tryz.underlying26 46 (.slice Ab (64*4) cb) rfl);clear ho hf ah bB dn ap hbb ho0 ii hfl;go_wp2_with (at_builtin;refine wpList_own rfl (.tmp 38) (.tmp 40) 26 26 rfl W1.heap.size 46 (.slice none 0 0) 1 24 Tryz.underlying26 info46 rfl rfl HO.out rfl i7.out dh.out (Nat.le_refl _) ?_ ?_ ?_ ?_)
     ·unfold maxLen;omega
     ·omega
     ·exact dh.out.size
     intro v7 w7 mr br oE;have hrf:=OP.push (e:=5) (eP:=46) (by decide) (by rw[bt.out];exact HO.out) HF.out fi.out (by rw[bt.out];exact mr) oE;rw[ce.out,←pQ.out] at hrf;have gi:=qH hrf;have bo:=qH br;clear mr oE hrf br;go_wp2;go_roundw
     case rel=>exact⟨k+1,by omega,by go_num,gi.out,bo.out⟩
     case measure=>simp[intOf];omega
  ·have hkk:k=pg:=by omega
   subst hkk;have hcall:=refRows8_any _ _ wr b8.out.rp (by rw[pagesR_len];omega);obtain⟨r,hr⟩:∃r,r=rowsT (pagesR s F k):=⟨_,rfl⟩
   rw[←hr] at hcall;obtain⟨rl,re⟩:=r;have HR:=qH hr;have HC:=qH hcall;clear hcall hr;go_wp2_with fail
   refine HC.out.mono ?_;rintro e w5⟨v,rfl,ho,hb⟩;obtain⟨A5,c5,rfl⟩:=or_shape ho;have HO:=qH ((ho.base_ aG.out.size).base_ aw.out.size);have HB:=qH ((aw.out.trans (aG.out.mono aw.out.size)).trans (hb.mono (Nat.le_trans aw.out.size aG.out.size)));clear ho hb;go_wp2
   go_ret2
   rw[←HR.out];exact⟨_,rfl,HO.out,HB.out⟩
def GivesO8(A:Nat→Prop)(w:World)(r:Nat×Ss)(e:Ending)(w':World):Prop:=∃ex,e= .returned (.tuple #[ex,.int .i64 (r.1:Int)])∧(∃aS nS cS aL nL cL cw cf f lf aR nR cR i0 i1 i2 i3,ex= .agg #[.slice aS nS cS,.slice aL nL cL,.int .i64 cw,.int .i64 cf,.bool f,.int .i64 lf,.slice aR nR cR,.int .i64 i0,.int .i64 i1,.int .i64 i2,.int .i64 i3])∧Below w.heap.size w w'∧(r.1=0→TRs A w' ex r.2)
theorem GivesO8.no{A:Nat→Prop}{w w':World}{r:Nat×Ss}{n:Nat}{aS aL aR:Option Addr}{nS cS nL cL nR cR:Nat}{cw cf lf i0 i1 i2 i3:Int}{f:Bool}(h:r.1=n)(h0:n≠0)(hb:Below w.heap.size w w'):GivesO8 A w r (.returned (.tuple #[.agg #[.slice aS nS cS,.slice aL nL cL,.int .i64 cw,.int .i64 cf,.bool f,.int .i64 lf,.slice aR nR cR,.int .i64 i0,.int .i64 i1,.int .i64 i2,.int .i64 i3],.int .i64 (n:Int)])) w':=by
 subst h;exact⟨_,rfl,⟨_,_,_,_,_,_,_,_,_,_,_,_,_,_,_,_,_,rfl⟩,hb,fun h=>absurd h h0⟩
theorem open8_any{A:Nat→Prop}{w:World}{tv:Value}{s:Sim}(h:TRd A w tv s)(hok:OK s)(hA:∀k,A k→k<w.heap.size)(hn:64≤s.firm.length)(hlo:s.loose.length≤8000):
  Calls Tryz.prog 15 #[tv] w (GivesO8 A w (openR s)):=by
 have HN:=hok.n;have dJ:=newK_good s;obtain⟨K,hK⟩:∃K,newK s 2=K:=⟨_,rfl⟩
 have cY:openR s=openR s:=rfl
 conv at cY=>{rhs;unfold openR}
 rw[hK] at cY dJ;obtain⟨ep,ar,pg⟩:=K;simp only[] at cY dJ;obtain⟨aS,nS,cS,aL,nL,cL,cw,cf,f,lf,rfl⟩:=h.sixn;obtain⟨W1,hW1⟩:∃W1,W1=((w.alloc (Obj.cells #[.slice aS nS cS,.slice aL nL cL,.int .i64 cw,.int .i64 cf,.bool f,.int .i64 lf] 29)).alloc (Obj.cells #[.slice none 0 0,.slice none 0 0,.int .i64 0,.int .i64 0,.bool false,.int .i64 0,.slice none 0 0,.int .i64 0,.int .i64 0,.int .i64 0,.int .i64 0] 42)):=⟨_,rfl⟩
 have aj:Below w.heap.size w W1:=by rw[hW1];exact below2 w _ _
 have hs1:W1.heap.size=w.heap.size+2:=by rw[hW1];simp
 have hb1:Dv.Blk W1 w.heap.size 29 #[.slice aS nS cS,.slice aL nL cL,.int .i64 cw,.int .i64 cf,.bool f,.int .i64 lf]:=by rw[hW1];exact heap_alloc2_old w _ _
 have hb2:Dv.Blk W1 (w.heap.size+1) 42 #[.slice none 0 0,.slice none 0 0,.int .i64 0,.int .i64 0,.bool false,.int .i64 0,.slice none 0 0,.int .i64 0,.int .i64 0,.int .i64 0,.int .i64 0]:=by rw[hW1];exact heap_alloc2_new w _ _
 have hT:TRd (Up A w.heap.size (w.heap.size+2)) W1 (.agg #[.slice aS nS cS,.slice aL nL cL,.int .i64 cw,.int .i64 cf,.bool f,.int .i64 lf]) s:=h.up_ aj (Nat.le_refl _);have cE:∀k,Up A w.heap.size (w.heap.size+2) k→k<W1.heap.size:=up_lt hA (by omega) aj.size;obtain⟨n,hne⟩:∃n,n=s.firm.length:=⟨_,rfl⟩
 have jx:nS=n:=by
  obtain⟨vS,vL,qt,zg,vZ,h1,h2,_⟩:=h;obtain⟨a',c',h3,_⟩:=h2.shape;rw[h3] at h1;injection h1 with h1;have h5:=congrArg (fun z:Array Value=>z[0]?) h1;simp at h5;rw[hne];exact h5.2.1
 have al:=fun X=>layout8_any (n:Int) (by omega) (by omega) X
 rw[layJ_nat,layA_nat] at al;obtain⟨M,hM⟩:∃M,M=aN n:=⟨_,rfl⟩
 obtain⟨J,hJ⟩:∃J,J=jN n:=⟨_,rfl⟩
 have D1:=aN_le n;have DR:=aN_pos (n:=n) (by omega);rw[←hM,←hJ] at al D1 DR;have pE:=found8_any hT hok hn;rw[hK] at pE;simp only[] at pE;obtain⟨RT,pm⟩:∃RT,RT=rowsT (laidL s ar pg):=⟨_,rfl⟩
 obtain⟨FS,ly⟩:∃FS,FS=readS (ep:Int) (secsL s 2 J):=⟨_,rfl⟩
 rw[←hne,←hJ,←pm,←ly] at cY;rw[←hne,←hM] at dJ;have hrows:=fun(X:World) (hX:Below W1.heap.size W1 X) (ha:ar≤1) (hp:pg≤aN s.firm.length)=>rows8_any ar pg (hT.below hX) hok hn ha hp
 rw[←pm,←hne,←hM] at hrows;have rQ:=fun(X:World) (hX:Below W1.heap.size W1 X)=>secs8_any 2 J (hT.below hX) hok (by rw[←hne];omega)
 have ms:=readS_few (ep:Int) (secsL s 2 J);rw[←ly,secsL_len] at ms;have hrg:RT.2=0→Sorted RT.1∧RT.1.length≤5000∧∀r∈RT.1,r.2.length≤150:=fun he=>by
  have:=rowsT_good (ps:=laidL s ar pg) (by rw[←pm];exact he);rw[←pm] at this;exact this
 obtain⟨R,hR⟩:∃R,R=openR s:=⟨_,rfl⟩
 rw[←hR] at cY⊢;have od:=fun(X:World) (hX:Below W1.heap.size W1 X) (lv:Value) (rs:List Rw) (ps:List (List UInt8)) (hr:RR X lv rs) (hps:buildL rs=some ps) (hf:ps.length≤aN s.firm.length) (he:ep+1≤1073741824)=>lay8_any (ep+1) (1-ar) (hT.below hX) hok (fun q hq=>Nat.lt_of_lt_of_le (cE q hq) hX.size) hr hps (built_256 hps) hn hf (by omega) he (by omega)
 rw[←hne,←hM] at od;have bh:=qH al;have CW:=qH pE;have jB:=qH hrows;have yt:=qH rQ;have yd:=qH od;have m6:=qH dJ;have Io:=qH hrg;have fq:=qH cY;have qQ:=qH ms;have ga:=qH ly;have aw:=qH aj;have fN:=qH cE;have aD:=qH hb1;have bw:=qH hb2;have jo:=qH hs1;have dU:=qH hW1;have AT:=qH hM;have fZ:=qH hne;subst jx;have kB:¬(nS:Int)<64:=by omega
 have di:nS≤4096:=by omega
 clear h hok hA hn hlo HN aj hs1 hb1 hb2 hT cE al pE hrows rQ od dJ hrg cY ms ly pm hR hK hW1 hM hJ hne;obtain⟨g1,hg1⟩:∃g1,g1=w.heap.size:=⟨_,rfl⟩
 obtain⟨g2,hg2⟩:∃g2,g2=w.heap.size+1:=⟨_,rfl⟩
 rw[←hg1] at aD fN;rw[←hg2] at bw;have wR:=qH hg1;have HG2:=qH hg2;clear hg1 hg2;go_enter Tryz.func15,Tryz.ntmps15;go_wp2_with fail
 rw[←dU.out,←HG2.out,←wR.out];refine CW.out.mono ?_;rintro e w1⟨rfl,hb1⟩;have an:=qH hb1;clear hb1;by_cases h0:ep=0
 ·have hR:R.1=11:=by rw[fq.out,if_pos h0]
  have n9:=qH hR;subst h0;clear hR;simp only[Nat.lt_irrefl,decide_false];have af:=aD.out.below (an.out) aD.out.lt;obtain⟨z0,z1,z2,z3,z4,z5⟩:=cl6 af;clear af;have cX:=qH (bw.out.below (an.out) bw.out.lt);have bM:=qH (n9.out);go_wp2_with (first|(refine wpList_store_row rfl 42 (.tmp 2) (.tmp 36) rfl g2 #[.slice aS nS cS,.slice aL nL cL,.int .i64 cw,.int .i64 cf,.bool f,.int .i64 lf,.slice none 0 0,.int .i64 0,.int .i64 0,.int .i64 0,.int .i64 0] rfl rfl 42 #[.slice none 0 0,.slice none 0 0,.int .i64 0,.int .i64 0,.bool false,.int .i64 0,.slice none 0 0,.int .i64 0,.int .i64 0,.int .i64 0,.int .i64 0] cX.out (elv42 _ _ _ _ _ _ _ _ _ _ _) rfl (all11 _ _ _ _ _ _ _ _ _ _ _ _ _ _ _ _ _) ?_)|(refine bodyPost_ret (v:= .tuple #[.agg #[.slice aS nS cS,.slice aL nL cL,.int .i64 cw,.int .i64 cf,.bool f,.int .i64 lf,.slice none 0 0,.int .i64 0,.int .i64 0,.int .i64 0,.int .i64 0],.int .i64 11]) (leaveO8 rfl rfl (row_blk cX.out _)) rfl (GivesO8.no bM.out (by decide) (aw.out.trans (((Fr.of_below (D:=fun q=>q=g2) (an.out)).trans (row_fr w1 g2 _) (fun q hq=> .inl hq)).below (fun q hq=>by have:=HG2.out;omega) aw.out.size)))))
 have hpos:0<ep:=by omega
 obtain⟨k1,k2,k3,k4⟩:=m6.out hpos;rw[decide_eq_true hpos];have af:=aD.out.below (an.out) aD.out.lt;obtain⟨z0,z1,z2,z3,z4,z5⟩:=cl6 af;clear af;go_wp2_with fail
 refine(jB.out _ an.out k2 k4).mono ?_;rintro e w3⟨lv,rfl,aK,hb3⟩;obtain⟨Ar,cr,rfl⟩:=or_shape aK;have ak:=qH (an.out.trans (hb3.mono an.out.size));have EN:=qH (or_rrd (A:=Up A g1 (g1+2)) aK (fun q hq=>Nat.lt_of_lt_of_le (fN.out q hq) an.out.size));clear aK hb3 z0 z1 z2 z3 z4 z5;by_cases he:RT.2=0
 rotate_left
 ·have hR:R.1=RT.2:=by rw[fq.out,if_neg h0,if_pos he]
  have n9:=qH hR;have HE:=qH he;have he':((RT.2:Int) !=0)=true:=by rw[bne_iff_ne];omega
  clear hR he h0 k1 k2 k3 k4;have af:=aD.out.below (ak.out) aD.out.lt;obtain⟨z0,z1,z2,z3,z4,z5⟩:=cl6 af;clear af;have cX:=qH (bw.out.below (ak.out) bw.out.lt);have bM:=qH (n9.out);go_wp2_with (first|(refine wpList_store_row rfl 42 (.tmp 2) (.tmp 47) rfl g2 #[.slice aS nS cS,.slice aL nL cL,.int .i64 cw,.int .i64 cf,.bool f,.int .i64 lf,.slice none 0 0,.int .i64 0,.int .i64 0,.int .i64 0,.int .i64 0] rfl rfl 42 #[.slice none 0 0,.slice none 0 0,.int .i64 0,.int .i64 0,.bool false,.int .i64 0,.slice none 0 0,.int .i64 0,.int .i64 0,.int .i64 0,.int .i64 0] cX.out (elv42 _ _ _ _ _ _ _ _ _ _ _) rfl (all11 _ _ _ _ _ _ _ _ _ _ _ _ _ _ _ _ _) ?_)|(refine bodyPost_ret (v:= .tuple #[.agg #[.slice aS nS cS,.slice aL nL cL,.int .i64 cw,.int .i64 cf,.bool f,.int .i64 lf,.slice none 0 0,.int .i64 0,.int .i64 0,.int .i64 0,.int .i64 0],.int .i64 (RT.2:Int)]) (leaveO8 rfl rfl (row_blk cX.out _)) rfl (GivesO8.no bM.out HE.out (aw.out.trans (((Fr.of_below (D:=fun q=>q=g2) (ak.out)).trans (row_fr w3 g2 _) (fun q hq=> .inl hq)).below (fun q hq=>by have:=HG2.out;omega) aw.out.size)))))
 have hrl:=(Io.out he).2.1;have HE:=qH he;rw[he];clear he;have af:=aD.out.below (ak.out) aD.out.lt;obtain⟨z0,z1,z2,z3,z4,z5⟩:=cl6 af;clear af;go_wp2_with (go_at_call 30;refine(bh.out _).mono ?_;rintro e wq ⟨rfl,rfl⟩)
 refine(yt.out _ ak.out).mono ?_;rintro e w4⟨sv,rfl,eu,hb4⟩;obtain⟨As,yC,oT,_⟩:=id eu;rw[secsL_len] at oT;subst oT;have fk:=refRead_any (ep:Int) _ _ w4 eu (by rw[secsL_len];omega);rw[←ga.out] at fk;have dB:=qH fk;have ai:=qH (ak.out.trans (hb4.mono ak.out.size));have E6:=qH (EN.out.below hb4);clear eu hb4 fk z0 z1 z2 z3 z4 z5;go_wp2_with fail
 refine dB.out.mono ?_;rintro e w5⟨fv,rfl,hof,au⟩;obtain⟨Af,fh,rfl,_,_⟩:=hof.shape;have ax:=qH (ai.out.trans (au.mono ai.out.size));have cm:=qH (hof.base_ ai.out.size);have BS:=qH (E6.out.below au);clear hof au;go_wp2_with fail
 go_loopw [8,14] (fun lx i wr=>∃k:Nat,k≤FS.1.length∧i= .int .i64 k∧RRd (Up A g1 (g1+2)) wr lx (applyL RT.1 (FS.1.take k).flatten)∧Below w5.heap.size w5 wr) (fun _ i _=>FS.1.length-(intOf i).toNat)
 case atStart=>exact⟨0,Nat.zero_le _,rfl,BS.out,Below.refl _ _⟩
 case round=>
  obtain⟨k,hk,rfl,iw,ad⟩:=hrel;obtain⟨Al,cl,rfl,hsh⟩:=RVP.shape iw;clear hsh;have bM:=qH iw;have dd:=qH ad;by_cases hlt:k<FS.1.length
  ·obtain⟨g,u,_,hgl,⟨cg,bC⟩,hu,dD⟩:=of_at (cm.out.below ad) hlt
   have hcs:(FS.1[k]).length≤300000:=by
    have h1:(FS.1[k]).length≤FS.1.flatten.length:=(List.sublist_flatten_of_mem (List.getElem_mem hlt)).length_le;have:=qQ.out.1;omega
   have htl:(FS.1.take k).flatten.length≤300000:=by
    have h1:(FS.1.take k).flatten.length≤FS.1.flatten.length:=by
     conv=>{rhs;rw[←List.take_append_drop k FS.1,List.flatten_append,List.length_append]}
     omega
    have:=qQ.out.1;omega
   have hal:=applyL_len RT.1 (FS.1.take k).flatten;have hcall:=refApplyD_any _ _ _ _ wr (fun q hq=>Nat.lt_of_lt_of_le (fN.out q hq) (Nat.le_trans ax.out.size ad.size)) iw (oc_crd dD fN.out) (by omega);have hst:applyL (applyL RT.1 (FS.1.take k).flatten) FS.1[k]=applyL RT.1 (FS.1.take (k+1)).flatten:=by
    rw[List.take_succ_eq_append_getElem hlt,List.flatten_append,List.flatten_singleton,applyL_append]
   rw[hst] at hcall;have HC:=qH hcall;injection bC with e1 e2 e3;subst e1;subst e3;obtain⟨Au,cu,ah,_⟩:=id dD.rc;obtain⟨nu,nl⟩:∃nu,nu=FS.1[k].length:=⟨_,rfl⟩
   rw[←nl] at ah;subst ah;have HU:=qH hu;rw[Nat.zero_add] at hu;have q1:(0:Int)≤(k:Int):=by omega
   have q2:(k:Int)<FS.1.length:=by omega
   clear iw ad dD hcs htl hal hcall hst nl e2;go_wp2_with fail
   refine HC.out.mono ?_;rintro e w6⟨v6,rfl,jl,ap⟩;obtain⟨A6,c6,rfl,hsh⟩:=RVP.shape jl;clear hsh;have uk:=qH jl;have aE:=qH (dd.out.trans (ap.mono dd.out.size));clear jl ap hu;go_wp2;go_roundw
   case rel=>exact⟨k+1,by omega,by go_num,uk.out,aE.out⟩
   case measure=>simp[intOf];omega
  ·have hkk:k=FS.1.length:=by omega
   subst hkk;rw[List.take_length] at iw bM⊢;have hbb:=ax.out.trans (ad.mono ax.out.size);have lT:=refBuild_any _ _ wr (RRd.rr iw);obtain⟨L2,hL2⟩:∃L2,L2=applyL RT.1 FS.1.flatten:=⟨_,rfl⟩
   rw[←hL2] at lT bM⊢;have pK:R=if fitB nS L2=false then (21,noS s) else if ep=1073741824 then (32,noS s) else (0,ckS ⟨s,L2,ep,ar,0,0⟩):=by rw[fq.out,if_neg h0,if_neg (by rw[HE.out];simp),←hL2]
   have iG:=qH pK;have b7:=qH hbb;have cZ:=qH lT;clear iw ad hbb lT hL2 pK
   cases hbl:buildL L2 with
   |none=>
    rw[hbl] at cZ;have hR:R.1=21:=by rw[iG.out,if_pos (by unfold fitB;rw[hbl])]
    have n9:=qH hR;clear hR hbl;go_wp2_with fail
    refine cZ.out.mono ?_;rintro e w6⟨pv,rfl,hop,ap⟩;obtain⟨Ap,cp,rfl,bN,bT⟩:=hop.shape;clear bN bT;have aE:=qH (b7.out.trans (ap.mono b7.out.size));simp only[Option.isSome];clear hop ap;have af:=aD.out.below (aE.out) aD.out.lt;obtain⟨z0,z1,z2,z3,z4,z5⟩:=cl6 af;clear af;have cX:=qH (bw.out.below (aE.out) bw.out.lt);have bM:=qH (n9.out);go_wp2_with (first|(go_at_call 30;refine(bh.out _).mono ?_;rintro e wq ⟨rfl,rfl⟩)|(refine wpList_store_row rfl 42 (.tmp 2) (.tmp 97) rfl g2 #[.slice aS nS cS,.slice aL nL cL,.int .i64 cw,.int .i64 cf,.bool f,.int .i64 lf,.slice none 0 0,.int .i64 0,.int .i64 0,.int .i64 0,.int .i64 0] rfl rfl 42 #[.slice none 0 0,.slice none 0 0,.int .i64 0,.int .i64 0,.bool false,.int .i64 0,.slice none 0 0,.int .i64 0,.int .i64 0,.int .i64 0,.int .i64 0] cX.out (elv42 _ _ _ _ _ _ _ _ _ _ _) rfl (all11 _ _ _ _ _ _ _ _ _ _ _ _ _ _ _ _ _) ?_)|(refine bodyPost_ret (v:= .tuple #[.agg #[.slice aS nS cS,.slice aL nL cL,.int .i64 cw,.int .i64 cf,.bool f,.int .i64 lf,.slice none 0 0,.int .i64 0,.int .i64 0,.int .i64 0,.int .i64 0],.int .i64 21]) (leaveO8 rfl rfl (row_blk cX.out _)) rfl (GivesO8.no bM.out (by decide) (aw.out.trans (((Fr.of_below (D:=fun q=>q=g2) (aE.out)).trans (row_fr w6 g2 _) (fun q hq=> .inl hq)).below (fun q hq=>by have:=HG2.out;omega) aw.out.size)))))
   |some ps=>
    rw[hbl] at cZ;have nY:fitB nS L2=decide (ps.length≤M):=by unfold fitB;rw[hbl,AT.out]
    have Cy:=qH nY;have fy:=qH hbl;clear nY hbl;go_wp2_with fail
    refine cZ.out.mono ?_;rintro e w6⟨pv,rfl,hop,ap⟩;obtain⟨Ap,cp,rfl,bN,bT⟩:=hop.shape;clear bN bT;have aE:=qH (b7.out.trans (ap.mono b7.out.size));have vh:=qH (bM.out.below ap);simp only[Option.isSome,Option.getD_some];clear hop ap;by_cases hf:ps.length≤M
    rotate_left
    ·have hR:R.1=21:=by rw[iG.out,if_pos (by rw[Cy.out,decide_eq_false_iff_not];exact hf)]
     have n9:=qH hR;have hgt:(M:Int)<(ps.length:Int):=by omega
     clear hR hf;have af:=aD.out.below (aE.out) aD.out.lt;obtain⟨z0,z1,z2,z3,z4,z5⟩:=cl6 af;clear af;have cX:=qH (bw.out.below (aE.out) bw.out.lt);have bM:=qH (n9.out);go_wp2_with (first|(go_at_call 30;refine(bh.out _).mono ?_;rintro e wq ⟨rfl,rfl⟩)|(refine wpList_store_row rfl 42 (.tmp 2) (.tmp 97) rfl g2 #[.slice aS nS cS,.slice aL nL cL,.int .i64 cw,.int .i64 cf,.bool f,.int .i64 lf,.slice none 0 0,.int .i64 0,.int .i64 0,.int .i64 0,.int .i64 0] rfl rfl 42 #[.slice none 0 0,.slice none 0 0,.int .i64 0,.int .i64 0,.bool false,.int .i64 0,.slice none 0 0,.int .i64 0,.int .i64 0,.int .i64 0,.int .i64 0] cX.out (elv42 _ _ _ _ _ _ _ _ _ _ _) rfl (all11 _ _ _ _ _ _ _ _ _ _ _ _ _ _ _ _ _) ?_)|(refine bodyPost_ret (v:= .tuple #[.agg #[.slice aS nS cS,.slice aL nL cL,.int .i64 cw,.int .i64 cf,.bool f,.int .i64 lf,.slice none 0 0,.int .i64 0,.int .i64 0,.int .i64 0,.int .i64 0],.int .i64 21]) (leaveO8 rfl rfl (row_blk cX.out _)) rfl (GivesO8.no bM.out (by decide) (aw.out.trans (((Fr.of_below (D:=fun q=>q=g2) (aE.out)).trans (row_fr w6 g2 _) (fun q hq=> .inl hq)).below (fun q hq=>by have:=HG2.out;omega) aw.out.size)))))
    have Jm:(ps.length:Int)≤(M:Int):=by omega
    by_cases hmax:ep=1073741824
    ·have hR:R.1=32:=by rw[iG.out,if_neg (by rw[Cy.out,decide_eq_true hf];simp),if_pos hmax]
     have n9:=qH hR;clear hR hf D1 DR hrl k1 k2 k3 k4 hpos h0 hk hlt di;obtain⟨q,hq⟩:∃q:Int,q=((ep:Nat):Int):=⟨_,rfl⟩
     have hq2:q=1073741824:=by omega
     rw[←hq];clear hq hmax;subst hq2;have af:=aD.out.below (aE.out) aD.out.lt;obtain⟨z0,z1,z2,z3,z4,z5⟩:=cl6 af;clear af;have cX:=qH (bw.out.below (aE.out) bw.out.lt);have bM:=qH (n9.out);go_wp2_with (first|(go_at_call 30;refine(bh.out _).mono ?_;rintro e wq ⟨rfl,rfl⟩)|(refine wpList_store_row rfl 42 (.tmp 2) (.tmp 101) rfl g2 #[.slice aS nS cS,.slice aL nL cL,.int .i64 cw,.int .i64 cf,.bool f,.int .i64 lf,.slice none 0 0,.int .i64 0,.int .i64 0,.int .i64 0,.int .i64 0] rfl rfl 42 #[.slice none 0 0,.slice none 0 0,.int .i64 0,.int .i64 0,.bool false,.int .i64 0,.slice none 0 0,.int .i64 0,.int .i64 0,.int .i64 0,.int .i64 0] cX.out (elv42 _ _ _ _ _ _ _ _ _ _ _) rfl (all11 _ _ _ _ _ _ _ _ _ _ _ _ _ _ _ _ _) ?_)|(refine bodyPost_ret (v:= .tuple #[.agg #[.slice aS nS cS,.slice aL nL cL,.int .i64 cw,.int .i64 cf,.bool f,.int .i64 lf,.slice none 0 0,.int .i64 0,.int .i64 0,.int .i64 0,.int .i64 0],.int .i64 32]) (leaveO8 rfl rfl (row_blk cX.out _)) rfl (GivesO8.no bM.out (by decide) (aw.out.trans (((Fr.of_below (D:=fun q=>q=g2) (aE.out)).trans (row_fr w6 g2 _) (fun q hq=> .inl hq)).below (fun q hq=>by have:=HG2.out;omega) aw.out.size)))))
    have hmx:((ep:Int)==1073741824)=false:=by rw[beq_eq_false_iff_ne];omega
    have hR:R=(0,ckS ⟨s,L2,ep,ar,0,0⟩):=by rw[iG.out,if_neg (by rw[Cy.out,decide_eq_true hf];simp),if_neg hmax]
    have n9:=qH hR;have qw:=yd.out w6 aE.out _ L2 ps vh.out.rr fy.out hf (by omega);obtain⟨lp,ke⟩:∃a,a=1-ar:=⟨_,rfl⟩
    rw[←ke] at qw;have sJ:(1:Int)-(ar:Int)=(lp:Int):=by omega
    rw[show((ep+1:Nat):Int)=(ep:Int)+1 by omega] at qw;have BX:=qH qw;have GQ:=qH ke;have JW:=qH sJ;clear hR qw ke hf D1 DR hrl k2 k3 k4 hpos h0 hk hlt di hmax;have af:=aD.out.below (aE.out) aD.out.lt;obtain⟨z0,z1,z2,z3,z4,z5⟩:=cl6 af;clear af;go_wp2_with (go_at_call 30;refine(bh.out _).mono ?_;rintro e wq ⟨rfl,rfl⟩)
    refine BX.out.mono ?_;rintro e w7⟨Bi,rfl,jn,br⟩;obtain⟨fY,fS,fO,fV,fT,fW,fP,fU,f7,lf7,rfl⟩:=jn.sixn;have t9:=qH jn;have bo:=qH (aE.out.trans (br.mono aE.out.size));have sV:=qH (vh.out.below br);clear jn br z0 z1 z2 z3 z4 z5;have cX:=qH ((bw.out.below bo.out bw.out.lt).alloc (Obj.cells #[.slice fY fS fO,.slice fV fT fW,.int .i64 fP,.int .i64 fU,.bool f7,.int .i64 lf7] 29));have ew:=qH (((Fr.refl (fun j=>j=g2) w7).alloc (Obj.cells #[.slice fY fS fO,.slice fV fT fW,.int .i64 fP,.int .i64 fU,.bool f7,.int .i64 lf7] 29)).trans (row_fr (w7.alloc (Obj.cells #[.slice fY fS fO,.slice fV fT fW,.int .i64 fP,.int .i64 fU,.bool f7,.int .i64 lf7] 29)) g2 #[.slice fY fS fO,.slice fV fT fW,.int .i64 fP,.int .i64 fU,.bool f7,.int .i64 lf7,.slice Al L2.length cl,.int .i64 ((ep:Int)+1),.int .i64 (lp:Int),.int .i64 0,.int .i64 0]) (fun q hq=> .inl hq));go_wp2_with (first|(refine wpList_store_row rfl 42 (.tmp 2) (.tmp 118) rfl g2 #[.slice fY fS fO,.slice fV fT fW,.int .i64 fP,.int .i64 fU,.bool f7,.int .i64 lf7,.slice Al L2.length cl,.int .i64 ((ep:Int)+1),.int .i64 (lp:Int),.int .i64 0,.int .i64 0] rfl rfl 42 #[.slice none 0 0,.slice none 0 0,.int .i64 0,.int .i64 0,.bool false,.int .i64 0,.slice none 0 0,.int .i64 0,.int .i64 0,.int .i64 0,.int .i64 0] cX.out (elv42 _ _ _ _ _ _ _ _ _ _ _) rfl (all11 _ _ _ _ _ _ _ _ _ _ _ _ _ _ _ _ _) ?_)|(refine bodyPost_ret (v:= .tuple #[.agg #[.slice fY fS fO,.slice fV fT fW,.int .i64 fP,.int .i64 fU,.bool f7,.int .i64 lf7,.slice Al L2.length cl,.int .i64 ((ep:Int)+1),.int .i64 (lp:Int),.int .i64 0,.int .i64 0],.int .i64 0]) (leaveO8 rfl rfl (row_blk cX.out _)) rfl ?_))
    rw[n9.out];refine⟨_,rfl,⟨_,_,_,_,_,_,_,_,_,_,_,_,_,_,_,_,_,rfl⟩,aw.out.trans (((Fr.of_below (D:=fun q=>q=g2) bo.out).trans ew.out (fun q hq=> .inl hq)).below (fun q hq=>by have:=HG2.out;omega) aw.out.size),fun _=>⟨fY,fS,fO,fV,fT,fW,fP,fU,f7,lf7,Al,L2.length,cl,?_,?_,?_⟩⟩
    ·show Value.agg #[.slice fY fS fO,.slice fV fT fW,.int .i64 fP,.int .i64 fU,.bool f7,.int .i64 lf7,.slice Al L2.length cl,.int .i64 ((ep:Int)+1),.int .i64 (lp:Int),.int .i64 0,.int .i64 0]=Value.agg #[.slice fY fS fO,.slice fV fT fW,.int .i64 fP,.int .i64 fU,.bool f7,.int .i64 lf7,.slice Al L2.length cl,.int .i64 ((ep+1:Nat):Int),.int .i64 ((1-ar:Nat):Int),.int .i64 ((0:Nat):Int),.int .i64 ((0:Nat):Int)]
     rw[←GQ.out];rfl
    ·show TRd A _ _ (layS s (ep+1) (1-ar) ((buildL L2).getD []))
     rw[←GQ.out,fy.out];have hG:=wR.out;have Ha:=HG2.out;exact(t9.out.st ew.out (fun q hq=>by omega)).down_
    ·have hG:=wR.out
     have Ha:=HG2.out;exact(sV.out.st ew.out (fun q hq=>by omega)).down_
def OwnX(P:Nat→Prop)(B:Nat)(w:World)(v:Value)(s:Sim):Prop:=∃D:Nat→Prop,Dev D w v s∧(∀k,D k→B≤k∧¬P k)∧B≤w.heap.size∧∀k,P k→k<w.heap.size
def OwnSX(P:Nat→Prop)(B dg:Nat)(w:World)(sv:Value)(x:Ss):Prop:=∃M:Nat→Prop,Sto dg M w sv x∧(∀k,M k→B≤k∧¬P k)∧B≤w.heap.size∧∀k,P k→k<w.heap.size
structure Stay (P:Nat→Prop) (B:Nat) (w w':World):Prop where
 bel:Below B w w'
 same:∀k,P k→w'.heap[k]? =w.heap[k]?
def Duo(P:Nat→Prop)(B T dg:Nat)(w:World)(sv:Value)(x:Ss)(tv:Value)(y:Ss):Prop:=
 ∃M:Nat→Prop,Sto dg M w sv x∧(∀k,M k→B≤k∧¬P k∧k<T)∧B≤T∧T≤w.heap.size∧(∀k,P k→B≤k∧k<T)∧TRs (fun k=>M k∨P k) w tv y
section
variable {P P' D:Nat→Prop} {B T dg b:Nat} {w w' w0:World} {sv tv:Value} {x y:Ss}
theorem Duo.ptr(h:Duo P B T dg w sv x tv y):∃g,sv= .pointer (some ⟨g,0,none⟩):=by
 obtain⟨M,⟨D,R,g,rv,h1,_⟩,_⟩:=h;exact⟨g,h1⟩
theorem Duo.lt(h:Duo P B T dg w sv x tv y):∀k,P k→B≤k∧k<T:=by obtain⟨M,_,_,_,_,h5,_⟩:=h;exact h5
theorem Duo.shape(h:Duo P B T dg w sv x tv y):∃aS nS cS aL nL cL cw cf f lf aR nR cR,tv= .agg #[.slice aS nS cS,.slice aL nL cL,.int .i64 cw,.int .i64 cf,.bool f,.int .i64 lf,.slice aR nR cR,.int .i64 (y.ep:Int),.int .i64 (y.ar:Int),.int .i64 (y.us:Int),.int .i64 (y.fr:Int)]:=by
 obtain⟨M,_,_,_,_,_,aS,nS,cS,aL,nL,cL,cw,cf,f,lf,aR,nR,cR,h1,_⟩:=h;exact⟨aS,nS,cS,aL,nL,cL,cw,cf,f,lf,aR,nR,cR,h1⟩
theorem Duo.below(h:Duo P B T dg w sv x tv y)(hb:Below w.heap.size w w'):Duo P B T dg w' sv x tv y:=by
 obtain⟨M,h1,h2,h3,h4,h5,h6⟩:=h;exact⟨M,h1.below hb,h2,h3,Nat.le_trans h4 hb.size,h5,h6.below hb⟩
theorem Duo.fr(h:Duo P B T dg w sv x tv y)(hf:Fr D w w')(hD:∀k,D k→P k):Duo P B T dg w' sv x tv y:=by
 obtain⟨M,h1,h2,h3,h4,h5,h6⟩:=h;exact⟨M,h1.fr hf (fun k hk hm=>(h2 k hm).2.1 (hD k hk)),h2,h3,Nat.le_trans h4 hf.size,h5,h6.fr hf (fun k hk=> .inr (hD k hk)) (fun _ h=> .inl h)⟩
theorem Duo.top(h:Duo P B T dg w sv x tv y)(hT:T≤b)(hb:b≤w.heap.size):Duo P B b dg w sv x tv y:=by
 obtain⟨M,h1,h2,h3,h4,h5,h6⟩:=h;exact⟨M,h1,fun k hk=>⟨(h2 k hk).1,(h2 k hk).2.1,Nat.lt_of_lt_of_le (h2 k hk).2.2 hT⟩,Nat.le_trans h3 hT,hb,fun k hk=>⟨(h5 k hk).1,Nat.lt_of_lt_of_le (h5 k hk).2 hT⟩,h6⟩
theorem duo_ref{lv:Value}{cs:List Chg}(h:Duo P B T dg w sv x tv y)(hT:T≤b)(hG:GoodX y)(hc:OC 5 76 w b lv cs)(hcn:cs.length≤5000)(hcs:sizesC cs≤90000):
  Calls Tryz.prog 24 #[tv,lv] w fun e w'=>∃ex,e= .returned (.tuple #[ex,.int .i64 ((commitR y cs).2:Int)])∧Duo P B T dg w' sv x ex (commitR y cs).1∧Below w.heap.size w w':=by
 obtain⟨M,h1,h2,h3,h4,h5,h6⟩:=h;have Fj:∀k,(M k∨P k)→k<T:=fun k hk=>by rcases hk with hk|hk;exact(h2 k hk).2.2;exact(h5 k hk).2
 obtain⟨q1,q2⟩:=chgsB_few cs hcs;refine(commit8_any (A:=fun k=>M k∨P k) h6 (fun k hk=>Nat.lt_of_lt_of_le (Fj k hk) h4) (oc_crd hc (fun k hk=>Nat.lt_of_lt_of_le (Fj k hk) hT)) hG (by omega) (by omega)).mono ?_;rintro e w'⟨ex,he,ht,hb⟩;exact⟨ex,he,⟨M,h1.below hb,h2,h3,Nat.le_trans h4 hb.size,h5,ht⟩,hb⟩
theorem duo_same(h:Duo P B T dg w sv x tv x)(hG:GoodX x):Calls Tryz.prog 16 #[sv,tv] w fun e w'=>e= .returned (.bool true)∧Below w.heap.size w w':=by
 obtain⟨M,h1,_,_,_,_,h6⟩:=h;exact same8_any h1 hG h6
end
def cOf(l:List UInt8):List Chg:=(rowsAt l (nrows l 6)).map chgOf
theorem cOf_few(l:List UInt8):(cOf l).length≤6∧sizesC (cOf l)≤1200∧readChgs (chgsL (cOf l))=(cOf l,0):=by
 have h1:(cOf l).length≤6:=by unfold cOf;rw[List.length_map,rowsAt_length];exact nrows_le l 6
 refine⟨h1,?_,readChgs_back _ (by omega) (madeC_short l _)⟩;have:=madeC_sizes l (nrows l 6);have h2:=nrows_le l 6;unfold cOf;omega
theorem size_open(k:Nat):openR (formatS (Sim.new (sizeN k)))=(0,openedS (Sim.new (sizeN k)))∧InvS (openedS (Sim.new (sizeN k)))∧(openedS (Sim.new (sizeN k))).d.fuse=none∧(openedS (Sim.new (sizeN k))).n=sizeN k∧(formatS (Sim.new (sizeN k))).loose= []∧64≤(formatS (Sim.new (sizeN k))).firm.length:=by
 obtain⟨h1,h2⟩:=sizeN_in k;have h:=open_format (s:=Sim.new (sizeN k)) (OK.new (by omega)) rfl rfl (by rw[new_firm];exact h1);rw[new_firm] at h;exact h
def DuoD(P:Nat→Prop)(B T dg:Nat)(w:World)(s:Sim)(tv:Value)(y:Ss):Prop:=
 ∃D:Nat→Prop,Dev D w (dp dg) s∧(∀k,D k→B≤k∧¬P k∧k<T)∧B≤T∧T≤w.heap.size∧(∀k,P k→B≤k∧k<T)∧TRs (fun k=>D k∨P k) w tv y
def DuoX(P:Nat→Prop)(B T dg:Nat)(w:World)(sv:Value)(x:Ss)(tv:Value)(s:Sim):Prop:=
 ∃M:Nat→Prop,Sto dg M w sv x∧(∀k,M k→B≤k∧¬P k∧k<T)∧B≤T∧T≤w.heap.size∧(∀k,P k→B≤k∧k<T)∧TRd (fun k=>M k∨P k) w tv s
section
variable {P P' D:Nat→Prop} {B T dg b:Nat} {w w' w0:World} {sv tv kv:Value} {x y z:Ss} {s:Sim}
theorem apart_of{M M':Nat→Prop}(h2:∀k,M k→B≤k∧¬P k∧k<T)(h3:B≤T)(h4:T≤w.heap.size)(h5:∀k,P k→B≤k∧k<T)(hs:w.heap.size≤w'.heap.size)(hM:∀k,M' k→M k∨w.heap.size≤k)(hlt:∀k,M' k→k<w'.heap.size):
  (∀k,M' k→B≤k∧¬P k∧k<w'.heap.size)∧(∀k,P k→B≤k∧k<w'.heap.size):=by
 have gC:∀k,P k→k<w.heap.size:=fun k hk=>Nat.lt_of_lt_of_le (h5 k hk).2 h4
 refine⟨fun k hk=>?_,fun k hk=>⟨(h5 k hk).1,Nat.lt_of_lt_of_le (gC k hk) hs⟩⟩;rcases hM k hk with h|h
 ·exact⟨(h2 k h).1,(h2 k h).2.1,hlt k hk⟩
 ·exact⟨Nat.le_trans (Nat.le_trans h3 h4) h,fun hp=>by have:=gC k hp;omega,hlt k hk⟩
theorem still_of{M:Nat→Prop}(h2:∀k,M k→B≤k∧¬P k∧k<T)(hf:Fr M w w'):∀k,(P k∨T≤k)→k<w.heap.size→w'.heap[k]? =w.heap[k]? :=fun k hk hl=>hf.block k hl (fun hm=>by
 have:=h2 k hm;rcases hk with h|h
 ·exact this.2.1 h
 ·omega)
theorem Duo.le(h:Duo P B T dg w sv x tv y):T≤w.heap.size:=by obtain⟨M,_,_,_,h4,_⟩:=h;exact h4
theorem either_new{M M':Nat→Prop}{n:Nat}(hM:∀k,M' k→M k∨n≤k):∀k,(M' k∨P k)→(M k∨P k)∨n≤k:=fun k hk=>by
 rcases hk with hk|hk
 ·rcases hM k hk with h|h
  ·exact .inl (.inl h)
  ·exact .inr h
 ·exact .inl (.inr hk)
theorem commit_code(x:Ss)(cs:List Chg):(commitR x cs).2≤32:=by
 unfold commitR
 repeat' split
 all_goals (first|exact Nat.zero_le _|exact(by decide:3≤32)|exact(by decide:21≤32)|exact(by decide:32≤32))
theorem duo_commit{lv:Value}{cs:List Chg}(h:Duo P B T dg w sv x tv y)(hT:T≤b)(hG:GoodX x)(hc:OC 5 76 w b lv cs)(hcn:cs.length≤5000)(hcs:sizesC cs≤90000):
  Calls Tryz.prog 25 #[sv,lv] w fun e w'=>e= .returned (.int .u16 ((commitR x cs).2:Int))∧Duo P B w'.heap.size dg w' sv (commitR x cs).1 tv y∧Below B w w'∧∀k,(P k∨T≤k)→k<w.heap.size→w'.heap[k]? =w.heap[k]? :=by
 obtain⟨M,h1,h2,h3,h4,h5,h6⟩:=h;obtain⟨q1,q2⟩:=chgsB_few cs hcs;refine(commit_any h1 hG (oc_co hc (fun k hk=>Nat.lt_of_lt_of_le (h2 k hk).2.2 hT)) (by omega) (by omega) q2).mono ?_;rintro e w'⟨he,M',g1,g2,g3⟩;obtain⟨a1,a2⟩:=apart_of h2 h3 h4 h5 g2.size g3 g1.lt;exact⟨he,⟨M',g1,a1,Nat.le_trans (Nat.le_trans h3 h4) g2.size,Nat.le_refl _,a2,h6.fr g2 (fun k hk=> .inl hk) (either_new g3)⟩,g2.below (fun k hk=>(h2 k hk).1) (Nat.le_trans h3 h4),still_of h2 g2⟩
theorem duo_refck(h:Duo P B T dg w sv x tv y)(hG:GoodX y)(he:y.ep<1073741824):
  Calls Tryz.prog 19 #[tv] w fun e w'=>∃ex,e= .returned (.tuple #[ex,.int .i64 0])∧Duo P B T dg w' sv x ex (ckS y)∧Below w.heap.size w w':=by
 obtain⟨M,h1,h2,h3,h4,h5,h6⟩:=h;refine(ck8_any (A:=fun k=>M k∨P k) h6 (fun k hk=>?_) hG he).mono ?_
 ·rcases hk with hk|hk
  ·exact Nat.lt_of_lt_of_le (h2 k hk).2.2 h4
  ·exact Nat.lt_of_lt_of_le (h5 k hk).2 h4
 rintro e w'⟨ex,he,ht,hb⟩;exact⟨ex,he,⟨M,h1.below hb,h2,h3,Nat.le_trans h4 hb.size,h5,ht⟩,hb⟩
theorem duo_progck(h:Duo P B T dg w sv x tv y)(hG:GoodX x)(he:x.ep<1073741824):
  Calls Tryz.prog 20 #[sv] w fun e w'=>e= .returned (.int .u16 0)∧Duo P B w'.heap.size dg w' sv (ckS x) tv y∧Below B w w'∧∀k,(P k∨T≤k)→k<w.heap.size→w'.heap[k]? =w.heap[k]? :=by
 obtain⟨M,h1,h2,h3,h4,h5,h6⟩:=h;refine(ck_any h1 hG he).mono ?_;rintro e w'⟨he,M',g1,g2,g3⟩;obtain⟨a1,a2⟩:=apart_of h2 h3 h4 h5 g2.size g3 g1.lt;exact⟨he,⟨M',g1,a1,Nat.le_trans (Nat.le_trans h3 h4) g2.size,Nat.le_refl _,a2,h6.fr g2 (fun k hk=> .inl hk) (either_new g3)⟩,g2.below (fun k hk=>(h2 k hk).1) (Nat.le_trans h3 h4),still_of h2 g2⟩
theorem duo_progfuse(n:Int)(hn:n≤1000)(h:Duo P B T dg w sv x tv y):
  Calls Tryz.prog 17 #[dp dg,.int .i64 n] w fun e w'=>e= .returned (.tuple #[])∧Duo P B T dg w' sv {x with d:=x.d.setFuse n} tv y∧Below B w w'∧∀k,(P k∨T≤k)→k<w.heap.size→w'.heap[k]? =w.heap[k]? :=by
 obtain⟨M,⟨D,R,g,rv,h0,h1⟩,h2,h3,h4,h5,h6⟩:=h;refine(fuse_any n hn h1.dev).mono ?_;rintro e w'⟨he,hf,hd'⟩;have oM:∀k,D k→M k:=fun k hk=>(h1.hM k).2 (.inl hk)
 have hst:Sto dg (fun k=>D k∨k=g∨R k) w' sv {x with d:=x.d.setFuse n}:=⟨D,R,g,rv,h0,h1.redev hf hd' (fun k hk=> .inl hk)⟩
 exact⟨he,⟨_,hst,fun k hk=>h2 k ((h1.hM k).2 hk),h3,Nat.le_trans h4 hf.size,h5,h6.fr hf (fun k hk=> .inl (oM k hk)) (fun k hk=> .inl (hk.imp (fun h=>(h1.hM k).2 h) id))⟩,hf.below (fun k hk=>(h2 k (oM k hk)).1) (Nat.le_trans h3 h4),still_of (fun k hk=>h2 k (oM k hk)) hf⟩
theorem duo_reffuse{aS aL aR:Option Addr}{nS cS nL cL nR cR:Nat}{cw cf lf i0 i1 i2 i3:Int}{f:Bool}(n:Int)
  (h:Duo P B T dg w sv x (.agg #[.slice aS nS cS,.slice aL nL cL,.int .i64 cw,.int .i64 cf,.bool f,.int .i64 lf,.slice aR nR cR,.int .i64 i0,.int .i64 i1,.int .i64 i2,.int .i64 i3]) y):
  Calls Tryz.prog 18 #[.agg #[.slice aS nS cS,.slice aL nL cL,.int .i64 cw,.int .i64 cf,.bool f,.int .i64 lf],.int .i64 n] w fun e w'=>∃En Cr EC Fb BW Dr zg vZ f' qt,e= .returned (.agg #[.slice En Cr EC,.slice Fb BW Dr,.int .i64 zg,.int .i64 vZ,.bool f',.int .i64 qt])∧
   Duo P B T dg w' sv x (.agg #[.slice En Cr EC,.slice Fb BW Dr,.int .i64 zg,.int .i64 vZ,.bool f',.int .i64 qt,.slice aR nR cR,.int .i64 i0,.int .i64 i1,.int .i64 i2,.int .i64 i3]) {y with d:=y.d.setFuse n}∧Below w.heap.size w w':=by
 obtain⟨M,h1,h2,h3,h4,h5,⟨bS,mS,dS,bL,mL,dL,dw,df,g,lg,bR,mR,dR,hv,h6,h7⟩⟩:=h;injection hv with hv;injection hv with hv;injection hv with e0 hv;injection hv with e1 hv;injection hv with e2 hv;injection hv with e3 hv;injection hv with e4 hv;injection hv with e5 hv;injection hv with e6 hv;injection hv with e7 hv;injection hv with e8 hv;injection hv with e9 hv;injection hv with e10 hv;rw[e0,e1,e2,e3,e4,e5,e6,e7,e8,e9,e10];refine(reffuse_any n h6).mono ?_;rintro e w'⟨ex,he,ht,hb⟩;obtain⟨En,Cr,EC,Fb,BW,Dr,zg,vZ,f',qt,rfl⟩:=ht.sixn;exact⟨_,_,_,_,_,_,_,_,_,_,he,⟨M,h1.below hb,h2,h3,Nat.le_trans h4 hb.size,h5,⟨_,_,_,_,_,_,_,_,_,_,_,_,_,rfl,ht,h7.below hb⟩⟩,hb⟩
theorem duo_crash(K:List Bool)(h:Duo P B T dg w sv x tv y)(hK:BK w0 kv K)(hb:Below B w0 w)(h0:w0.heap.size≤B):
  Calls Tryz.prog 21 #[dp dg,kv] w fun e w'=>e= .returned (.tuple #[])∧DuoD P B T dg w' (x.d.crash K) tv y∧Below B w w'∧∀k,(P k∨T≤k)→k<w.heap.size→w'.heap[k]? =w.heap[k]? :=by
 obtain⟨M,⟨D,R,g,rv,_,h1⟩,h2,h3,h4,h5,h6⟩:=h;have oM:∀k,D k→M k:=fun k hk=>(h1.hM k).2 (.inl hk)
 have hK':KB D w kv K:=by
  obtain⟨A,c,rfl,h1⟩:=hK;refine⟨A,c,rfl,h1.imp id fun⟨b,off,e,hbl,hc⟩=>⟨b,off,e,Nat.lt_of_lt_of_le hbl hb.size,fun hd2=>by have:=(h2 b (oM b hd2)).1;omega,fun j hj=>?_⟩⟩;exact(World.cell?_of_block (a:=⟨b,off+j,none⟩) (hb.block b (by omega))).trans (hc j hj)
 refine(crash_any kv K h1.dev hK').mono ?_;rintro e w'⟨he,hf,hd'⟩;exact⟨he,⟨D,hd',fun k hk=>h2 k (oM k hk),h3,Nat.le_trans h4 hf.size,h5,h6.fr hf (fun k hk=> .inl (oM k hk)) (fun k hk=> .inl (hk.imp (oM k) id))⟩,hf.below (fun k hk=>(h2 k (oM k hk)).1) (Nat.le_trans h3 h4),still_of (fun k hk=>h2 k (oM k hk)) hf⟩
theorem duo_open(h:DuoD P B T dg w s tv y)(hn:64≤s.firm.length)(hlo:s.loose= [])(ho:openR s=(0,z)):
  Calls Tryz.prog 14 #[dp dg] w fun e w'=>∃sv',e= .returned (.tuple #[sv',.int .u16 0])∧Duo P B w'.heap.size dg w' sv' z tv y∧Below B w w'∧∀k,(P k∨T≤k)→k<w.heap.size→w'.heap[k]? =w.heap[k]? :=by
 obtain⟨D,hd,h2,h3,h4,h5,h6⟩:=h;refine(open_any hd hn (by rw[hlo];exact Nat.zero_le _) (fun _=>hlo)).mono ?_;rintro e w'⟨sv,he,h7⟩;rw[ho] at he h7;rcases h7 with ⟨a1,_⟩|⟨_,M',g1,g2,g3⟩
 ·exact(a1 rfl).elim
 ·obtain⟨a1,a2⟩:=apart_of h2 h3 h4 h5 g2.size g3 g1.lt
  exact⟨sv,he,⟨M',g1,a1,Nat.le_trans (Nat.le_trans h3 h4) g2.size,Nat.le_refl _,a2,h6.fr g2 (fun k hk=> .inl hk) (either_new g3)⟩,g2.below (fun k hk=>(h2 k hk).1) (Nat.le_trans h3 h4),still_of h2 g2⟩
theorem duo_refcrash{aS aL aR:Option Addr}{nS cS nL cL nR cR:Nat}{cw cf lf i0 i1 i2 i3:Int}{f:Bool}(K:List Bool)
  (h:Duo P B T dg w sv x (.agg #[.slice aS nS cS,.slice aL nL cL,.int .i64 cw,.int .i64 cf,.bool f,.int .i64 lf,.slice aR nR cR,.int .i64 i0,.int .i64 i1,.int .i64 i2,.int .i64 i3]) y) (hok:OK y.d) (hK:BK w0 kv K) (hb:Below B w0 w) (h0:w0.heap.size≤B):
  Calls Tryz.prog 22 #[.agg #[.slice aS nS cS,.slice aL nL cL,.int .i64 cw,.int .i64 cf,.bool f,.int .i64 lf],kv] w fun e w'=>∃ex,e= .returned ex∧DuoX P B T dg w' sv x ex (y.d.crash K)∧Below w.heap.size w w':=by
 obtain⟨M,h1,h2,h3,h4,h5,⟨bS,mS,dS,bL,mL,dL,dw,df,g,lg,bR,mR,dR,hv,h6,h7⟩⟩:=h;injection hv with hv;injection hv with hv;injection hv with e0 hv;injection hv with e1 hv;injection hv with e2 hv;injection hv with e3 hv;injection hv with e4 hv;injection hv with e5 hv;injection hv with e6 hv;rw[e0,e1,e2,e3,e4,e5];have hK':KW w kv K:=(hK.below (hb.mono h0)).kb (fun _ h=>h.elim);refine(refcrash_any K h6 hok (fun k hk=>?_) hK').mono ?_
 ·rcases hk with hk|hk
  ·exact Nat.lt_of_lt_of_le (h2 k hk).2.2 h4
  ·exact Nat.lt_of_lt_of_le (h5 k hk).2 h4
 rintro e w'⟨ex,he,ht,hb'⟩;exact⟨ex,he,⟨M,h1.below hb',h2,h3,Nat.le_trans h4 hb'.size,h5,ht⟩,hb'⟩
theorem duo_refopen(h:DuoX P B T dg w sv x tv s)(hok:OK s)(hn:64≤s.firm.length)(hlo:s.loose= [])(ho:openR s=(0,z)):
  Calls Tryz.prog 15 #[tv] w fun e w'=>∃ex,e= .returned (.tuple #[ex,.int .i64 0])∧Duo P B T dg w' sv x ex z∧Below w.heap.size w w':=by
 obtain⟨M,h1,h2,h3,h4,h5,h6⟩:=h;refine(open8_any (A:=fun k=>M k∨P k) h6 hok (fun k hk=>?_) hn (by rw[hlo];exact Nat.zero_le _)).mono ?_
 ·rcases hk with hk|hk
  ·exact Nat.lt_of_lt_of_le (h2 k hk).2.2 h4
  ·exact Nat.lt_of_lt_of_le (h5 k hk).2 h4
 rw[ho];rintro e w'⟨ex,he,_,hb,ht⟩;exact⟨ex,he,⟨M,h1.below hb,h2,h3,Nat.le_trans h4 hb.size,h5,ht rfl⟩,hb⟩
end
end Go.Proofs.YtmbkaedhllfoeaaGreat
