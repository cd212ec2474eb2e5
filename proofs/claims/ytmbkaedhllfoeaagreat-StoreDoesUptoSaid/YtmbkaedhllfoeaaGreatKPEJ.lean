/-
  Texts of the proof, put together.
-/
import Derived.BigQuiet
import Derived.Test.YtmbkaedhllfoeaaGreatKPEI
import Derived.Test.YtmbkaedhllfoeaaGreatKPWr
set_option maxRecDepth 100000
set_option maxHeartbeats 4000000
set_option linter.unusedVariables false
namespace Go.Proofs.YtmbkaedhllfoeaaGreat
open Go.RowKit Go.Rst Go.Dv Go.Crc Go.Str Go.Pg
theorem commit_over{dg:Nat}{M:Nat→Prop}{w:World}{sv lv:Value}{x:Ss}{cs:List Chg}(h:Sto dg M w sv x)(hG:GoodX x)(hc:CO M w lv cs)(hne:cs≠ [])(hl:cs.any longC=false)(hcb:(chgsB cs).length≤100000000)(hcs:cs.length≤100000)(hcv:∀r∈cs,r.2.1.length≤1000000000)(hp:(partsL (x.ep:Int) (x.fr:Int) cs).2=true)(hp1:(partsL (x.ep:Int) (x.fr:Int) cs).1.length≤jN x.n)(hft:fitB x.n (applyL x.rows cs)=true)(hroom:jN x.n<x.us+(partsL (x.ep:Int) (x.fr:Int) cs).1.length)(hov:x.ep=1073741824):Calls Tryz.prog 25 #[sv,lv] w fun e w'=>e= .returned (.int .u16 32)∧Below w.heap.size w w':=by
 obtain⟨D,R,g,rv,rfl,h⟩:=h;have HC:=qH hc;obtain⟨A,c,rfl,hcc,hcm,_⟩:=hc.rc;unfold maxLen at hcm;have hcl:(0:Int)<(cs.length:Int):=by have:=List.length_pos_iff.2 hne;omega
 have gZ:((cs.length:Int)==0)=false:=by rw[beq_eq_false_iff_ne];omega
 have nD:¬(cs.length:Int)=0:=by omega
 have H:=qH h;have HL:=qH (anyLong_any (.slice A cs.length c) cs w hc.rc);rw[hl] at HL;obtain⟨⟨P1,P2⟩,bF⟩:∃PL,PL=partsL (x.ep:Int) (x.fr:Int) cs:=⟨_,rfl⟩
 obtain⟨J,hJ⟩:∃J,J=jN x.n:=⟨_,rfl⟩
 obtain⟨n,hn⟩:∃n,n=x.d.firm.length:=⟨_,rfl⟩
 have kB:64≤n:=by rw[hn];exact hG.n
 have di:n≤4096:=by rw[hn];exact hG.ok.n
 have uF:J≤n:=by rw[hJ,hn];exact Nat.le_trans (jN_le x.d.firm.length) (Nat.div_le_self _ _)
 have ah:x.us≤J:=by rw[hJ];exact hG.us
 have ay:x.fr≤J:=Nat.le_trans hG.fr ah;have fg:=hG.ep;have har:=hG.ar;have hlen:=fun X (hX:Below w.heap.size w X)=>len_any (h.dev.below hX)
 rw[←hn] at hlen;have al:=fun X=>layout_any (n:Int) (by omega) (by omega) X
 rw[layJ_nat,layA_nat,hn,←hJ,←hn] at al;have HLEN:=qH hlen;have bh:=qH al;have iX:=fun X (hX:Fr M w X)=>parts_any (x.ep:Int) (x.fr:Int) _ cs X (hc X hX) hcb (by omega) (fun r hr=>hcv r hr)
 rw[←bF] at iX;have qm:=qH iX;have hcells:=fun X (hX:Below w.heap.size w X)=>h.blk.below hX h.blk.lt
 have aW:=qH hcells;have cW:=qH bF;have HJ:=qH hJ;have ll:=qH hn;have HG:=qH hG;obtain⟨Ar,cr,ib,pO,pt⟩:=rr_shape h.rows.rr;subst ib;obtain⟨kD,kP⟩:∃r,r=applyL x.rows cs:=⟨_,rfl⟩
 have j4:=qH kP;obtain⟨D3,js⟩:∃b,b=fitB n (applyL x.rows cs):=⟨_,rfl⟩
 have fi:=qH js;rw[←bF,←hJ] at hroom;simp only at hroom;rw[←bF] at hp;rw[←bF,←hJ] at hp1;simp only at hp hp1;subst hp;have gK:fitB n kD=true:=by rw[kP,hn];exact hft
 have ud:¬(J:Int)<(P1.length:Int):=by omega
 have cJ:=qH gK;have hroom':(J:Int)<(x.us:Int)+(P1.length:Int):=by omega
 have Ex:=qH hov;clear h hc hG bF hJ hn hlen al iX hcells hcb kP js hft gK hov;go_enter Tryz.func25,Tryz.ntmps25;go_wp2_with fail
 go_at_call 64;refine HL.out.mono ?_;rintro e w1⟨rfl,hb1⟩;have an:=qH hb1;clear hb1;have c0:=(aW.out _ an.out).cell 0;have c1:=(aW.out _ an.out).cell 1;have c2:=(aW.out _ an.out).cell 2;have c3:=(aW.out _ an.out).cell 3;have c4:=(aW.out _ an.out).cell 4;have c5:=(aW.out _ an.out).cell 5;unfold sc at c0 c1 c2 c3 c4 c5;simp at c0 c1 c2 c3 c4 c5;go_wp2_with (first|(go_at_call 38;refine(HLEN.out _ an.out).mono ?_;rintro e wx ⟨rfl,rfl⟩)|(go_at_call 29;refine(bh.out _).mono ?_;rintro e wx ⟨rfl,rfl⟩))
 refine wp_region_held_drew (S:=fun X=>Below w.heap.size w X) (by kernel_rfl) an.out.drew (fun hHeld=>?_);refine tkC 0 ?_;refine tkC 1 ?_;refine tkC 2 ?_;refine tkA 3 (v:=?_) ?_ ?_;rotate_left
 ·intro X hSw;have zb:=aW.out _ hSw;have z2:=zb.cell 2;have z5:=zb.cell 5;unfold sc at z2 z5;simp at z2 z5;go_simp;try (with_reducible rfl)
 try simp only[Act.put,zA,zB,zC]
 refine tkC 4 ?_;refine tkC 5 ?_;refine tkC 6 ?_;refine tkA 7 (v:=?_) ?_ ?_;rotate_left
 ·intro X hSw;have zb:=aW.out _ hSw;have z2:=zb.cell 2;have z5:=zb.cell 5;unfold sc at z2 z5;simp at z2 z5;go_simp;try (with_reducible rfl)
 try simp only[Act.put,zA,zB,zC]
 refine tkC 8 ?_;refine rdA (rs:= [9]) ?_;refine arC (fun K hK=>?_);go_simp;refine(qm.out _ (Fr.of_below hHeld)).mono ?_;rintro e w2⟨pv,rfl,hop,hb2⟩;obtain⟨Ap,cp,hpv,j8,i9⟩:=hop.shape;subst hpv;have b8:=qH hop;have ae:=qH (hHeld.trans (hb2.mono hHeld.size));have ig:=qH (show w.heap.size≤w1.drew.heap.size from hHeld.size);clear hop hb2;try (go_wp2_with fail)
 have ac:=ae.out;refine hK.out _ _ ?_ (fun _=>?_)
 ·exact ac
 clear hK K hHeld;have hHeld:=ac;clear ac;try simp only[Act.put,zA,zB,zC]
 refine tkC 10 ?_;refine tkC 11 ?_;refine tkC 12 ?_;refine tkC 13 ?_;refine tkC 14 ?_;refine wpAnyH_done (by kernel_rfl) ?_ _;clear hHeld c0 c1 c2 c3 c4 c5;have d0:=(aW.out _ ae.out).cell 0;have d1:=(aW.out _ ae.out).cell 1;have d4:=(aW.out _ ae.out).cell 4;unfold sc at d0 d1 d4;simp at d0 d1 d4;have hap:=apply_any (.slice Ar x.rows.length cr) (.slice A cs.length c) x.rows cs w2 (H.out.rows.keep ae.out.size (fun k hr=>ae.out.block k (H.out.hR k hr).2.2)).rr (rows_few_ HG.out).1 (HC.out _ (Fr.of_below ae.out)) (by have:=(rows_few_ HG.out).2;omega) (fun r hr=>Nat.le_trans (rows_val HG.out r hr) (by decide)) (fun r hr=>Nat.le_trans (hcv r hr) (by decide));rw[←j4.out] at hap;have eA:=qH hap;clear hap;go_wp2_with fail
 go_at_call 50;refine eA.out.mono ?_;rintro e w3⟨qy,rfl,ct,hb3⟩;have ak:=qH (ae.out.trans (hb3.mono ae.out.size));have da:=qH ct;have py:=qH hb3;have qi:w2.heap.size≤w3.heap.size:=hb3.size;obtain⟨A3,c3,kI,mA,mZ⟩:=rr_shape ct.rr;subst kI;clear ct hb3 d0 d1 d4;have g0:=(aW.out _ ak.out).cell 0;have g4:=(aW.out _ ak.out).cell 4;unfold sc at g0 g4;simp at g0 g4;have j3:=qH (sfit_any (H.out.dev.below ak.out) _ _ da.out.rr);rw[←ll.out] at j3;go_wp2_with fail
 go_at_call 52;refine j3.out.mono ?_;rintro e w4⟨rfl,hb4⟩;have ai:=qH (ak.out.trans (hb4.mono ak.out.size));have eV:=qH hb4;clear hb4 g0 g4;have k4:=(aW.out _ ai.out).cell 4;have k0:=(aW.out _ ai.out).cell 0;unfold sc at k4 k0;simp at k4 k0;rw[cJ.out];have mV:=qH (ck_over (show Sto dg M w4 (.pointer (some ⟨g,0,none⟩)) x from⟨D,R,g,.slice Ar x.rows.length cr,rfl,H.out.below ai.out⟩) Ex.out);go_wp2_with fail
 go_at_call 20;refine mV.out.mono ?_;rintro e w5⟨rfl,rfl⟩;go_wp2;go_ret;exact⟨rfl,ai.out⟩
theorem commit_ck{dg:Nat}{M:Nat→Prop}{w:World}{sv lv:Value}{x:Ss}{cs:List Chg}(h:Sto dg M w sv x)(hG:GoodX x)(hc:CO M w lv cs)(hne:cs≠ [])(hl:cs.any longC=false)(hcb:(chgsB cs).length≤100000000)(hcs:cs.length≤100000)(hcv:∀r∈cs,r.2.1.length≤1000000000)(hp:(partsL (x.ep:Int) (x.fr:Int) cs).2=true)(hp1:(partsL (x.ep:Int) (x.fr:Int) cs).1.length≤jN x.n)(hft:fitB x.n (applyL x.rows cs)=true)(hroom:jN x.n<x.us+(partsL (x.ep:Int) (x.fr:Int) cs).1.length)(hov:x.ep<1073741824):Calls Tryz.prog 25 #[sv,lv] w fun e w'=>e= .returned (.int .u16 0)∧SDid dg M w sv (putS (ckS x) cs) w':=by
 obtain⟨D,R,g,rv,rfl,h⟩:=h;have HC:=qH hc;obtain⟨A,c,rfl,hcc,hcm,_⟩:=hc.rc;unfold maxLen at hcm;have hcl:(0:Int)<(cs.length:Int):=by have:=List.length_pos_iff.2 hne;omega
 have gZ:((cs.length:Int)==0)=false:=by rw[beq_eq_false_iff_ne];omega
 have nD:¬(cs.length:Int)=0:=by omega
 have H:=qH h;have HL:=qH (anyLong_any (.slice A cs.length c) cs w hc.rc);rw[hl] at HL;obtain⟨⟨P1,P2⟩,bF⟩:∃PL,PL=partsL (x.ep:Int) (x.fr:Int) cs:=⟨_,rfl⟩
 obtain⟨J,hJ⟩:∃J,J=jN x.n:=⟨_,rfl⟩
 obtain⟨n,hn⟩:∃n,n=x.d.firm.length:=⟨_,rfl⟩
 have kB:64≤n:=by rw[hn];exact hG.n
 have di:n≤4096:=by rw[hn];exact hG.ok.n
 have uF:J≤n:=by rw[hJ,hn];exact Nat.le_trans (jN_le x.d.firm.length) (Nat.div_le_self _ _)
 have ah:x.us≤J:=by rw[hJ];exact hG.us
 have ay:x.fr≤J:=Nat.le_trans hG.fr ah;have fg:=hG.ep;have har:=hG.ar;have hlen:=fun X (hX:Below w.heap.size w X)=>len_any (h.dev.below hX)
 rw[←hn] at hlen;have al:=fun X=>layout_any (n:Int) (by omega) (by omega) X
 rw[layJ_nat,layA_nat,hn,←hJ,←hn] at al;have HLEN:=qH hlen;have bh:=qH al;have iX:=fun X (hX:Fr M w X)=>parts_any (x.ep:Int) (x.fr:Int) _ cs X (hc X hX) hcb (by omega) (fun r hr=>hcv r hr)
 rw[←bF] at iX;have qm:=qH iX;have hcells:=fun X (hX:Below w.heap.size w X)=>h.blk.below hX h.blk.lt
 have aW:=qH hcells;have cW:=qH bF;have HJ:=qH hJ;have ll:=qH hn;have HG:=qH hG;obtain⟨Ar,cr,ib,pO,pt⟩:=rr_shape h.rows.rr;subst ib;obtain⟨kD,kP⟩:∃r,r=applyL x.rows cs:=⟨_,rfl⟩
 have j4:=qH kP;obtain⟨D3,js⟩:∃b,b=fitB n (applyL x.rows cs):=⟨_,rfl⟩
 have fi:=qH js;rw[←bF,←hJ] at hroom;simp only at hroom;rw[←bF] at hp;rw[←bF,←hJ] at hp1;simp only at hp hp1;subst hp;have gK:fitB n kD=true:=by rw[kP,hn];exact hft
 have ud:¬(J:Int)<(P1.length:Int):=by omega
 have cJ:=qH gK;have hroom':(J:Int)<(x.us:Int)+(P1.length:Int):=by omega
 obtain⟨y,hy⟩:∃y,y=ckS x:=⟨_,rfl⟩
 have GF:y.us≤5000:=by rw[hy];exact Nat.zero_le _
 have Gv:y.fr≤5000:=by rw[hy];exact Nat.zero_le _
 have IC:y.ep≤1073741824:=by rw[hy];show x.ep+1≤_;omega
 have Kh:y.d.loose.length≤20000:=by
  rw[hy];obtain⟨ps,hps,hpl⟩:=hG.fit;show(layS x.d (x.ep+1) (1-x.ar) ((buildL x.rows).getD [])).loose.length≤_;rw[hps];have h1:=layS_loose x.d (x.ep+1) (1-x.ar) ps (built_256 hps);have h2:=aN_le x.d.firm.length;have h3:=hG.lo;have h4:ps.length≤aN x.d.firm.length:=hpl;have h5:x.d.firm.length≤4096:=hG.ok.n;show(layS x.d (x.ep+1) (1-x.ar) ps).loose.length≤_;omega
 obtain⟨⟨P3,P4⟩,Ai⟩:∃PL,PL=partsL (y.ep:Int) (y.fr:Int) cs:=⟨_,rfl⟩
 have Kk:P3.length≤200:=by have:=parts_len (y.ep:Int) (y.fr:Int) cs;rw[←Ai] at this;exact this
 have tC:=fun X (hX:RC X (.slice A cs.length c) cs)=>parts_any (y.ep:Int) (y.fr:Int) _ cs X hX hcb (by omega) (fun r hr=>hcv r hr)
 rw[←Ai] at tC;have CA:=qH tC;have HY:=qH hy;have AC:=qH Ai;have cj:=fun X (hX:Sto dg M X (.pointer (some ⟨g,0,none⟩)) x)=>ck_any hX hG hov
 rw[←hy] at cj;have mV:=qH cj;clear h hc hG bF hJ hn hlen al iX hcells hcb kP js hft gK hy Ai tC cj;go_enter Tryz.func25,Tryz.ntmps25;go_wp2_with fail
 go_at_call 64;refine HL.out.mono ?_;rintro e w1⟨rfl,hb1⟩;have an:=qH hb1;clear hb1;have c0:=(aW.out _ an.out).cell 0;have c1:=(aW.out _ an.out).cell 1;have c2:=(aW.out _ an.out).cell 2;have c3:=(aW.out _ an.out).cell 3;have c4:=(aW.out _ an.out).cell 4;have c5:=(aW.out _ an.out).cell 5;unfold sc at c0 c1 c2 c3 c4 c5;simp at c0 c1 c2 c3 c4 c5;go_wp2_with (first|(go_at_call 38;refine(HLEN.out _ an.out).mono ?_;rintro e wx ⟨rfl,rfl⟩)|(go_at_call 29;refine(bh.out _).mono ?_;rintro e wx ⟨rfl,rfl⟩))
 refine wp_region_held_drew (S:=fun X=>Below w.heap.size w X) (by kernel_rfl) an.out.drew (fun hHeld=>?_);refine tkC 0 ?_;refine tkC 1 ?_;refine tkC 2 ?_;refine tkA 3 (v:=?_) ?_ ?_;rotate_left
 ·intro X hSw;have zb:=aW.out _ hSw;have z2:=zb.cell 2;have z5:=zb.cell 5;unfold sc at z2 z5;simp at z2 z5;go_simp;try (with_reducible rfl)
 try simp only[Act.put,zA,zB,zC]
 refine tkC 4 ?_;refine tkC 5 ?_;refine tkC 6 ?_;refine tkA 7 (v:=?_) ?_ ?_;rotate_left
 ·intro X hSw;have zb:=aW.out _ hSw;have z2:=zb.cell 2;have z5:=zb.cell 5;unfold sc at z2 z5;simp at z2 z5;go_simp;try (with_reducible rfl)
 try simp only[Act.put,zA,zB,zC]
 refine tkC 8 ?_;refine rdA (rs:= [9]) ?_;refine arC (fun K hK=>?_);go_simp;refine(qm.out _ (Fr.of_below hHeld)).mono ?_;rintro e w2⟨pv,rfl,hop,hb2⟩;obtain⟨Ap,cp,hpv,j8,i9⟩:=hop.shape;subst hpv;have b8:=qH hop;have ae:=qH (hHeld.trans (hb2.mono hHeld.size));have ig:=qH (show w.heap.size≤w1.drew.heap.size from hHeld.size);clear hop hb2;try (go_wp2_with fail)
 have ac:=ae.out;refine hK.out _ _ ?_ (fun _=>?_)
 ·exact ac
 clear hK K hHeld;have hHeld:=ac;clear ac;try simp only[Act.put,zA,zB,zC]
 refine tkC 10 ?_;refine tkC 11 ?_;refine tkC 12 ?_;refine tkC 13 ?_;refine tkC 14 ?_;refine wpAnyH_done (by kernel_rfl) ?_ _;clear hHeld c0 c1 c2 c3 c4 c5;have d0:=(aW.out _ ae.out).cell 0;have d1:=(aW.out _ ae.out).cell 1;have d4:=(aW.out _ ae.out).cell 4;unfold sc at d0 d1 d4;simp at d0 d1 d4;have hap:=apply_any (.slice Ar x.rows.length cr) (.slice A cs.length c) x.rows cs w2 (H.out.rows.keep ae.out.size (fun k hr=>ae.out.block k (H.out.hR k hr).2.2)).rr (rows_few_ HG.out).1 (HC.out _ (Fr.of_below ae.out)) (by have:=(rows_few_ HG.out).2;omega) (fun r hr=>Nat.le_trans (rows_val HG.out r hr) (by decide)) (fun r hr=>Nat.le_trans (hcv r hr) (by decide));rw[←j4.out] at hap;have eA:=qH hap;clear hap;go_wp2_with fail
 go_at_call 50;refine eA.out.mono ?_;rintro e w3⟨qy,rfl,ct,hb3⟩;have ak:=qH (ae.out.trans (hb3.mono ae.out.size));have da:=qH ct;have py:=qH hb3;have qi:w2.heap.size≤w3.heap.size:=hb3.size;obtain⟨A3,c3,kI,mA,mZ⟩:=rr_shape ct.rr;subst kI;clear ct hb3 d0 d1 d4;have g0:=(aW.out _ ak.out).cell 0;have g4:=(aW.out _ ak.out).cell 4;unfold sc at g0 g4;simp at g0 g4;have j3:=qH (sfit_any (H.out.dev.below ak.out) _ _ da.out.rr);rw[←ll.out] at j3;go_wp2_with fail
 go_at_call 52;refine j3.out.mono ?_;rintro e w4⟨rfl,hb4⟩;have ai:=qH (ak.out.trans (hb4.mono ak.out.size));have eV:=qH hb4;clear hb4 g0 g4;have k4:=(aW.out _ ai.out).cell 4;have k0:=(aW.out _ ai.out).cell 0;unfold sc at k4 k0;simp at k4 k0;rw[cJ.out];have oQ:=qH (mV.out w4 (show Sto dg M w4 (.pointer (some ⟨g,0,none⟩)) x from⟨D,R,g,.slice Ar x.rows.length cr,rfl,H.out.below ai.out⟩));go_wp2_with fail
 go_at_call 20;refine oQ.out.mono ?_;rintro e w5⟨rfl,M',⟨D',R',g',Bb,hg',Fg⟩,pB,bD⟩;obtain rfl:g=g':=by injection hg' with hg';injection hg' with hg';injection hg'
 have mp:=qH Fg;have yZ:=qH pB;have fC:=qH bD;have vm:=qH ((Fr.of_below (D:=M) ai.out).trans pB (fun k hk=> .inl hk));clear Fg pB bD hg' k4 k0;go_wp2_with fail
 go_wp2;refine wp_region_held_drew (S:=fun X=>Below w5.heap.size w5 X) (by kernel_rfl) (Below.refl _ _).drew (fun hHeld=>?_);refine tkC 0 ?_;refine tkC 1 ?_;refine tkC 2 ?_;refine tkA 3 (v:=?_) ?_ ?_;rotate_left
 ·intro X hSw;have zb:=mp.out.blk.below hSw mp.out.blk.lt;have z2:=zb.cell 2;have z5:=zb.cell 5;unfold sc at z2 z5;simp at z2 z5;go_simp;try (with_reducible rfl)
 try simp only[Act.put,zA,zB,zC]
 refine tkC 4 ?_;refine tkC 5 ?_;refine tkC 6 ?_;refine tkA 7 (v:=?_) ?_ ?_;rotate_left
 ·intro X hSw;have zb:=mp.out.blk.below hSw mp.out.blk.lt;have z2:=zb.cell 2;have z5:=zb.cell 5;unfold sc at z2 z5;simp at z2 z5;go_simp;try (with_reducible rfl)
 try simp only[Act.put,zA,zB,zC]
 refine tkC 8 ?_;refine rdA (rs:= [9]) ?_;refine arC (fun K hK=>?_);go_simp;refine(CA.out _ (HC.out _ (vm.out.trans (Fr.of_below (D:=fun _=>False) hHeld) (fun _ h=>h.elim)))).mono ?_;rintro e w6⟨pv,rfl,hop,ap⟩;obtain⟨Ap,cp,hpv,j8,i9⟩:=hop.shape;subst hpv;have CP:=qH hop;have aE:=qH (hHeld.trans (ap.mono hHeld.size));clear hop ap;try (go_wp2_with fail)
 have ac:=aE.out;refine hK.out _ _ ?_ (fun _=>?_)
 ·exact ac
 clear hK K hHeld;have hHeld:=ac;clear ac;try simp only[Act.put,zA,zB,zC]
 refine tkC 10 ?_;refine tkC 11 ?_;refine tkC 12 ?_;refine tkC 13 ?_;refine wpAnyH_done (by kernel_rfl) ?_ _;clear hHeld;have HT:=qH (mp.out.below aE.out);have yb:=qH (show ∀k,D' k→k<w5.heap.size from mp.out.dev.lt);have tn:=qH (show w5.heap.size≤w6.drew.heap.size from aE.out.size);have iE:=qH (show PN w6 w5.heap.size (.slice Ap P3.length cp) P3 from CP.out.pn);have uj:=qH (show y.d.loose.length+P3.length<100000 by omega);have hs2:=ae.out.size;have yR:=eV.out.size;have Ks:=yZ.out.size;have II:=aE.out.size;obtain⟨R3,mc⟩:∃R3:Nat→Prop,R3=fun k=>w2.heap.size≤k∧k<w3.heap.size:=⟨_,rfl⟩
 have AT:=qH (show ∀k,R3 k→¬M k by intro k hr hm;rw[mc] at hr;have:=H.out.lt k hm;omega);have DI:=qH (show ∀k,R3 k→¬M' k by intro k hr hm;rcases fC.out k hm with h1|h1;exact AT.out k hr h1;rw[mc] at hr;omega);have bO:=qH (show RO R3 w6 (.slice A3 kD.length c3) kD from((by rw[mc];exact or_ro da.out (Nat.le_refl _):RO R3 w3 (.slice A3 kD.length c3) kD)).keep (by omega) (fun k hr=>by have hr2:=hr;rw[mc] at hr2;exact(aE.out.block k (by omega)).trans ((yZ.out.block k (by omega) (AT.out k hr)).trans (eV.out.block k hr2.2))));have tz:=qH (show ∀k,R3 k→¬D' k∧k≠g∧k<w6.heap.size by intro k hr;have hm:=DI.out k hr;have hr2:=hr;rw[mc] at hr2;exact⟨fun hd=>hm ((mp.out.hM k).2 (.inl hd)),fun he=>hm ((mp.out.hM k).2 (.inr (.inl he))),by omega⟩);have xk:=qH (show putS (ckS x) cs=⟨(writeL y.d (2+y.us) P3 P3.length).flush,kD,y.ep,y.ar,y.us+P3.length,y.fr+1⟩ by rw[←HY.out];unfold putS;rw[←AC.out,j4.out,show y.rows=x.rows by rw[HY.out];rfl]);have xL:=qH (vm.out.trans (Fr.of_below (D:=fun _=>False) aE.out) (fun _ h=>h.elim));have yn:=qH (show ∀k,M' k→M k∨w.heap.size≤k by intro k hk;rcases fC.out k hk with h1|h1;exact .inl h1;exact .inr (by omega));have eF:=qH (show ∀k,R3 k→w.heap.size≤k by intro k hr;rw[mc] at hr;omega);clear mc;have zo:Dv.Blk w6 g 107 #[dv (.pointer (some ⟨dg,0,none⟩)),Bb,.int .i64 (y.ep:Int),.int .i64 (y.ar:Int),.int .i64 (y.us:Int),.int .i64 (y.fr:Int)]:=HT.out.blk;have ju:=qH zo;have hwr:=wr_any (w:=w6.drew) (2+y.us) (.slice Ap P3.length cp) P3 w5.heap.size (HT.out.dev.below (Below.refl _ _).drew) yb.out tn.out (iE.out.below (Below.refl _ _).drew) (by have:=uj.out;omega) (by omega);have kf:((2+y.us:Nat):Int)=2+(y.us:Int):=by omega
 rw[kf] at hwr;have iK:=qH hwr;have Kc:IntKind.i64.wrap (2+(y.us:Int))=2+(y.us:Int):=by rw[IntKind.wrap_i64];omega
 clear hwr zo kf;go_wp2_with fail
 refine wp_region_held_drew (S:=fun X=>Dv.Blk X g 107 #[dv (.pointer (some ⟨dg,0,none⟩)),Bb,.int .i64 (y.ep:Int),.int .i64 (y.ar:Int),.int .i64 (y.us:Int),.int .i64 (y.fr:Int)]) (by kernel_rfl) ju.out (fun hHeld=>?_);refine tkC 0 ?_;refine tkC 1 ?_;refine tkC 2 ?_;refine tkA 3 (v:=?_) ?_ ?_;rotate_left
 ·intro X hSw;have z0:=hSw.cell 0;have z4:=hSw.cell 4;simp at z0 z4;go_simp;try (with_reducible rfl)
 try simp only[Act.put,zA,zB,zC]
 refine tkC 4 ?_;refine tkC 5 ?_;refine tkC 6 ?_;refine tkA 7 (v:=?_) ?_ ?_;rotate_left
 ·intro X hSw;have z0:=hSw.cell 0;have z4:=hSw.cell 4;simp at z0 z4;go_simp;try (with_reducible rfl)
 try simp only[Act.put,zA,zB,zC]
 refine tkC 8 ?_;refine tkC 9 ?_;refine rdA (rs:= [10]) ?_;refine arC (fun K hK=>?_);go_simp;refine iK.out.mono ?_;rintro e w7⟨rfl,E7,vq,mo,lX⟩;have bo:=qH (show Dv.Blk w7 g 107 #[dv (.pointer (some ⟨dg,0,none⟩)),Bb,.int .i64 (y.ep:Int),.int .i64 (y.ar:Int),.int .i64 (y.us:Int),.int .i64 (y.fr:Int)] from ju.out.same (mo.block g ju.out.lt HT.out.hg));have EY:=qH vq;have kt:=qH (show Fr D' w6 w7 from(Fr.refl D' w6).drew.trans mo (fun _ h=> .inl h));have mj:=qH (show ∀k,E7 k→D' k∨w6.heap.size≤k from lX);clear vq mo lX;try (go_wp2_with fail)
 have ac:=bo.out;refine hK.out _ _ ?_ (fun _=>?_)
 ·exact ac
 clear hK K hHeld;have hHeld:=ac;clear ac;try simp only[Act.put,zA,zB,zC]
 refine wpAnyH_done (by kernel_rfl) ?_ _;clear hHeld;have p0:=bo.out.cell 0;simp at p0;go_wp2_with fail
 go_at_call 40;refine(flush_any EY.out).mono ?_;rintro e w8⟨rfl,mq,oy⟩;have l5:¬E7 g:=fun hh=>by rcases mj.out g hh with h1|h1;exact HT.out.hg h1;have:=HT.out.blk.lt;omega
 have cI:=qH (show Dv.Blk w8 g 107 #[dv (.pointer (some ⟨dg,0,none⟩)),Bb,.int .i64 (y.ep:Int),.int .i64 (y.ar:Int),.int .i64 (y.us:Int),.int .i64 (y.fr:Int)] from bo.out.same (mq.block g bo.out.lt l5));have DA:=qH oy;have nm:=qH mq;have Ia:=qH l5;have q1:=cI.out.cell 1;have q4:=cI.out.cell 4;have q5:=cI.out.cell 5;have y1:=cI.out.frozen 1;have y4:=cI.out.frozen 4;have y5:=cI.out.frozen 5;simp at q1 q4 q5;clear mq oy l5 p0;have Cm:IntKind.i64.wrap ((y.us:Int)+(P3.length:Int))=(y.us:Int)+(P3.length:Int):=by rw[IntKind.wrap_i64];omega
 have Dm:IntKind.i64.wrap ((y.fr:Int)+1)=(y.fr:Int)+1:=by rw[IntKind.wrap_i64];omega
 go_wp2;go_ret;refine⟨rfl,fun k=>E7 k∨k=g∨R3 k,⟨E7,R3,g,.slice A3 kD.length c3,rfl,?_⟩,?_,?_⟩
 ·exact put_end HT.out bO.out tz.out kt.out mj.out DA.out nm.out cI.out xk.out
 ·exact put_fr HT.out kt.out mj.out nm.out _ _ _ xL.out yn.out
 ·exact put_new HT.out mj.out xL.out.size eF.out yn.out
theorem commit_any{dg:Nat}{M:Nat→Prop}{w:World}{sv lv:Value}{x:Ss}{cs:List Chg}(h:Sto dg M w sv x)(hG:GoodX x)(hc:CO M w lv cs)(hcb:(chgsB cs).length≤100000000)(hcs:cs.length≤100000)(hcv:∀r∈cs,r.2.1.length≤1000000000):
  Calls Tryz.prog 25 #[sv,lv] w fun e w'=>e= .returned (.int .u16 ((commitR x cs).2:Int))∧SDid dg M w sv (commitR x cs).1 w':=by
 have stay:∀{n:Nat} {w'},commitR x cs=(x,n)→Below w.heap.size w w'→SDid dg M w sv (commitR x cs).1 w':=fun he hb=>by rw[he];exact SDid.same (h.below hb) (Fr.of_below hb)
 by_cases h1:cs= []
 ·have he:commitR x cs=(x,0):=by unfold commitR;rw[if_pos h1]
  subst h1;refine(commit_nil h hc.rc).mono ?_;rintro e w'⟨rfl,rfl⟩;exact⟨by rw[he];rfl,stay he (Below.refl _ _)⟩
 cases h2:cs.any longC with
 |true=>
  have he:commitR x cs=(x,3):=by unfold commitR;rw[if_neg h1,if_pos h2]
  refine(commit_long h hc h1 h2).mono ?_;rintro e w'⟨rfl,hb⟩;exact⟨by rw[he];rfl,stay he hb⟩
 |false=>
 have h2':¬cs.any longC=true:=by rw[h2];decide
 by_cases h3:(partsL (x.ep:Int) (x.fr:Int) cs).2=false∨jN x.n<(partsL (x.ep:Int) (x.fr:Int) cs).1.length
 ·have he:commitR x cs=(x,21):=by unfold commitR;rw[if_neg h1,if_neg h2',if_pos h3]
  refine(commit_parts h hG hc h1 h2 hcb hcs hcv h3).mono ?_;rintro e w'⟨rfl,hb⟩;exact⟨by rw[he];rfl,stay he hb⟩
 have rS:(partsL (x.ep:Int) (x.fr:Int) cs).2=true:=by
  cases hh:(partsL (x.ep:Int) (x.fr:Int) cs).2 with
  |true=>rfl
  |false=>exact absurd (.inl hh) h3
 have qX:(partsL (x.ep:Int) (x.fr:Int) cs).1.length≤jN x.n:=by
  rcases Nat.lt_or_ge (jN x.n) (partsL (x.ep:Int) (x.fr:Int) cs).1.length with hh|hh
  ·exact absurd (.inr hh) h3
  ·exact hh
 cases h4:fitB x.n (applyL x.rows cs) with
 |false=>
  have he:commitR x cs=(x,21):=by unfold commitR;rw[if_neg h1,if_neg h2',if_neg h3,if_pos h4]
  refine(commit_fit h hG hc h1 h2 hcb hcs hcv rS qX h4).mono ?_;rintro e w'⟨rfl,hb⟩;exact⟨by rw[he];rfl,stay he hb⟩
 |true=>
 have h4':¬fitB x.n (applyL x.rows cs)=false:=by rw[h4];decide
 by_cases h5:x.us+(partsL (x.ep:Int) (x.fr:Int) cs).1.length≤jN x.n
 ·have he:commitR x cs=(putS x cs,0):=by unfold commitR;rw[if_neg h1,if_neg h2',if_neg h3,if_neg h4',if_pos h5]
  refine(commit_put h hG hc h1 h2 hcb hcs hcv rS qX h4 h5).mono ?_;rintro e w'⟨rfl,hd⟩;exact⟨by rw[he];rfl,by rw[he];exact hd⟩
 have qd:jN x.n<x.us+(partsL (x.ep:Int) (x.fr:Int) cs).1.length:=Nat.lt_of_not_le h5;by_cases h6:x.ep=1073741824
 ·have he:commitR x cs=(x,32):=by unfold commitR;rw[if_neg h1,if_neg h2',if_neg h3,if_neg h4',if_neg h5,if_pos h6]
  refine(commit_over h hG hc h1 h2 hcb hcs hcv rS qX h4 qd h6).mono ?_;rintro e w'⟨rfl,hb⟩;exact⟨by rw[he];rfl,stay he hb⟩
 ·have he:commitR x cs=(putS (ckS x) cs,0):=by unfold commitR;rw[if_neg h1,if_neg h2',if_neg h3,if_neg h4',if_neg h5,if_neg h6]
  refine(commit_ck h hG hc h1 h2 hcb hcs hcv rS qX h4 qd (by have:=hG.ep;omega)).mono ?_;rintro e w'⟨rfl,hd⟩;exact⟨by rw[he];rfl,by rw[he];exact hd⟩
theorem ok_writeL{s:Sim}(h:OK s)(a:Nat)(ps:List (List UInt8)):∀k,s.loose.length+k<100000→OK (writeL s a ps k)
 |0,_=>h
 |k+1,hk=>by
  have:=writeL_loose s a ps k;exact(ok_writeL h a ps k (by omega)).write _ _ (by omega)
theorem flush_calm{s:Sim}(h:s.flush.goes=true):s.flush.loose= []:=by
 by_cases hg:s.goes=true
 ·exact(flush_live hg).2
 ·have hg':s.goes=false:=by simpa using hg
  rw[flush_dead hg'] at h;exact(hg h).elim
theorem layS_calm{s:Sim}{ep ar:Nat}{ps:List (List UInt8)}(h:(layS s ep ar ps).goes=true):(layS s ep ar ps).loose= []:=flush_calm h
theorem ok_layS{s:Sim}(h:OK s)(ep ar:Nat){ps:List (List UInt8)}(bj:∀p∈ps,p.length=256)(hl:s.loose.length+ps.length*4+1<100000):OK (layS s ep ar ps):=by
 have hc:=chunk64_len bj;have h1:=writeL_loose s (firstN s.firm.length ar) (chunkL64 ps.flatten) (chunkL64 ps.flatten).length;have h2:=flush_loose (writeL s (firstN s.firm.length ar) (chunkL64 ps.flatten) (chunkL64 ps.flatten).length);exact((ok_writeL h _ _ _ (by omega)).flush.write _ _ (by omega)).flush
def Fnd(x:Ss):Prop:=x.d.loose= []∧∃l0 lC,HdA x.d.firm x.ep x.ar l0 lC∧rowsOf x.d.firm x.ep l0=x.rows
def Live(x:Ss):Prop:=x.d.loose= []∧∃l0 ps fs,HdA x.d.firm x.ep x.ar l0 ps∧JrA x.d.firm x.ep fs∧x.fr=fs.length∧x.us=(secsF x.ep 0 fs).length∧applyL l0 fs.flatten=x.rows
theorem Live.fnd{x:Ss}(h:Live x):Fnd x:=by
 obtain⟨h1,l0,ps,fs,h2,h3,_,_,h4⟩:=h;exact⟨h1,l0,ps,h2,by rw[h3.rows h2.e2,h4]⟩
structure InvS (x:Ss):Prop where
 good:GoodX x
 live:x.d.goes=true→Live x
theorem good_fit{x:Ss}(h:GoodX x):fitB x.n x.rows=true:=by
 obtain⟨ps,h1,h2⟩:=h.fit;unfold fitB;rw[h1];exact decide_eq_true h2
theorem ck_n(x:Ss):(ckS x).n=x.n:=layS_firm _ _ _ _
theorem ck_step{x:Ss}(hG:GoodX x)(hF:x.d.goes=true→Fnd x)(he:x.ep<1073741824):
  InvS (ckS x)∧(x.d.goes=true→∀K,Rcv (x.ep+1) (krash (ckS x).d K) x.rows)∧(x.d.goes=false→(ckS x).d=x.d):=by
 obtain⟨ps,hps,hpl⟩:=hG.fit;have bj:=built_256 hps;have hA:=aN_le x.n;have hm:x.n≤4096:=hG.ok.n;have hlo:=hG.lo;have har:=hG.ar;have hd:(ckS x).d=layS x.d (x.ep+1) (1-x.ar) ps:=by unfold ckS;rw[hps];rfl
 have dO:=hG.calm;have kU:(ckS x).d.loose.length≤8000:=by
  rw[hd];by_cases hg:x.d.goes=true
  ·have:=layS_loose x.d (x.ep+1) (1-x.ar) ps bj
   rw[dO hg] at this;simp only[List.length_nil] at this;have hx:aN x.n≤512:=by have:=hG.n;omega
   omega
  ·rw[layS_dead (by simpa using hg)]
   exact hlo
 refine⟨⟨⟨by rw[ck_n];exact hG.n,by rw[hd];exact ok_layS hG.ok _ _ bj (by omega),⟨ps,hps,by rw[ck_n];exact hpl⟩,by show x.ep+1≤_;omega,by show 1-x.ar≤1;omega,Nat.zero_le _,Nat.le_refl _,kU,fun hg=>?_⟩,fun hg=>?_⟩,fun hg=>?_,fun hg=>?_⟩
 ·rw[hd] at hg⊢;exact layS_calm hg
 ·have hgx:x.d.goes=true:=by
   rcases Bool.eq_false_or_eq_true x.d.goes with h|h
   ·exact h
   ·rw[hd,layS_dead h,h] at hg;cases hg
  obtain⟨hl,l0,lC,hH,hr⟩:=hF hgx;obtain⟨h1,_⟩:=lay_can hl hH hr (good_fit hG) hps hpl he;rw[hd] at hg;obtain⟨a1,a2,a3⟩:=h1 hg;exact⟨by rw[hd];exact a1,x.rows,ps,[],by rw[hd];exact a2,by rw[hd];exact a3,rfl,rfl,rfl⟩
 ·obtain⟨hl,l0,lC,hH,hr⟩:=hF hg
  obtain⟨_,h2⟩:=lay_can hl hH hr (good_fit hG) hps hpl he;rw[hd];exact h2
 ·rw[hd,layS_dead hg]
theorem InvS.fnd{x:Ss}(h:InvS x)(hg:x.d.goes=true):Fnd x:=(h.live hg).fnd
theorem InvS.rcv{x:Ss}(h:InvS x)(hg:x.d.goes=true):Rcv x.ep x.d.firm x.rows:=by
 obtain⟨_,l0,ps,h1,h2⟩:=h.fnd hg;exact⟨x.ep,x.ar,l0,ps,h1,Nat.le_refl _,h2,good_fit h.good⟩
theorem put_n(x:Ss)(cs:List Chg):(putS x cs).n=x.n:=by
 show(writeL _ _ _ _).flush.firm.length=_;rw[flush_firm,writeL_firm]
theorem put_step{x:Ss}{cs:List Chg}(hI:InvS x)(hp:(partsL x.ep x.fr cs).2=true)(hft:fitB x.n (applyL x.rows cs)=true)(hroom:x.us+(partsL x.ep x.fr cs).1.length≤jN x.n)(hr:readChgs (chgsL cs)=(cs,0)):
  InvS (putS x cs)∧(x.d.goes=true→∀K,Rcv x.ep (krash (putS x cs).d K) x.rows∨Rcv x.ep (krash (putS x cs).d K) (applyL x.rows cs))∧(x.d.goes=false→(putS x cs).d=x.d):=by
 have hG:=hI.good;have hJ:=jN_le x.n;have hm:x.n≤4096:=hG.ok.n;have hlo:=hG.lo;have dO:=hG.calm;have hpos:0<(partsL x.ep x.fr cs).1.length:=by rw[parts_count hp];exact chgsL_pieces cs
 have qP:x.d.goes=true→((putS x cs).d.goes=true→Live (putS x cs))∧∀K,Rcv x.ep (krash (putS x cs).d K) x.rows∨Rcv x.ep (krash (putS x cs).d K) (applyL x.rows cs):=by
  intro hg;obtain⟨hl,l0,ps,fs,hH,JZ,h1,h2,h3⟩:=hI.live hg;have e2:applyL l0 (fs++ [cs]).flatten=applyL x.rows cs:=by rw[applyL_snoc2,h3]
  rw[h1] at hp;rw[h1,h2] at hroom;have hc:=put_can (cs:=cs) hl hH JZ hp hr hroom (by rw[h3];exact good_fit hG) (by rw[e2];exact hft);have hd:(putS x cs).d=(writeL x.d (2+(secsF x.ep 0 fs).length) (partsL x.ep fs.length cs).1 (partsL x.ep fs.length cs).1.length).flush:=by
   unfold putS;rw[h1,h2]
  rw[←hd,h3,e2] at hc;refine⟨fun hgo=>?_,hc.2⟩;obtain⟨a1,a2,a3⟩:=hc.1 hgo;refine⟨a1,l0,ps,fs++ [cs],a2,a3,?_,?_,e2⟩
  ·show x.fr+1=_
   rw[h1,List.length_append];rfl
  ·show x.us+(partsL x.ep x.fr cs).1.length=(secsF x.ep 0 (fs++ [cs])).length
   rw[secsF_snoc,List.length_append,h1,h2,Nat.zero_add]
 have mK:x.d.goes=false→(putS x cs).d=x.d:=by
  intro hg;show(writeL _ _ _ _).flush=x.d;rw[writeL_dead hg,flush_dead hg]
 have Ce:(putS x cs).d.goes=true→x.d.goes=true:=by
  intro hg;rcases Bool.eq_false_or_eq_true x.d.goes with h|h
  ·exact h
  ·rw[mK h,h] at hg;cases hg
 have kU:(putS x cs).d.loose.length≤8000:=by
  by_cases hg:x.d.goes=true
  ·have h1:=writeL_loose x.d (2+x.us) (partsL x.ep x.fr cs).1 (partsL x.ep x.fr cs).1.length
   have h2:=flush_loose (writeL x.d (2+x.us) (partsL x.ep x.fr cs).1 (partsL x.ep x.fr cs).1.length);rw[dO hg] at h1;simp only[List.length_nil] at h1;show(writeL x.d (2+x.us) (partsL x.ep x.fr cs).1 (partsL x.ep x.fr cs).1.length).flush.loose.length≤_;omega
  ·rw[mK (by simpa using hg)]
   exact hlo
 refine⟨⟨⟨by rw[put_n];exact hG.n,?_,by rw[put_n];exact fit_ex hft,hG.ep,hG.ar,by rw[put_n];exact hroom,?_,kU,fun hg=>?_⟩,fun hg=>(qP (Ce hg)).1 hg⟩,fun hg=>(qP hg).2,mK⟩
 ·show OK (writeL x.d (2+x.us) (partsL x.ep x.fr cs).1 (partsL x.ep x.fr cs).1.length).flush
  exact(ok_writeL hG.ok _ _ _ (by omega)).flush
 ·have:=hG.fr
  show x.fr+1≤x.us+_;omega
 ·exact flush_calm hg
theorem commit_step{x:Ss}{cs:List Chg}(hI:InvS x)(hr:cs.any longC=false→readChgs (chgsL cs)=(cs,0)):
  InvS (commitR x cs).1∧(commitR x cs).1.n=x.n∧(commitR x cs).1.ep≤x.ep+1∧(x.d.goes=true→∀K,Rcv (x.ep+1) (krash (commitR x cs).1.d K) x.rows∨Rcv (x.ep+1) (krash (commitR x cs).1.d K) (commitR x cs).1.rows)∧(x.d.goes=false→(commitR x cs).1.d=x.d)∧
   ((commitR x cs).2=0→cs.any longC=false∧(commitR x cs).1.rows=applyL x.rows cs)∧((commitR x cs).2≠0→(commitR x cs).1=x):=by
 have hsame:x.d.goes=true→∀K,Rcv (x.ep+1) (krash x.d K) x.rows∨Rcv (x.ep+1) (krash x.d K) x.rows:=by
  intro hg K;left
  show Rcv _ (kept x.d.firm x.d.loose K x.d.loose.length) _;rw[(hI.live hg).1];exact(hI.rcv hg).more (by omega)
 unfold commitR;by_cases h0:cs= []
 ·rw[if_pos h0]
  subst h0;exact⟨hI,rfl,by show x.ep≤_;omega,hsame,fun _=>rfl,fun _=>⟨rfl,rfl⟩,fun _=>rfl⟩
 rw[if_neg h0];by_cases h1:cs.any longC=true
 ·rw[if_pos h1]
  exact⟨hI,rfl,by show x.ep≤_;omega,hsame,fun _=>rfl,fun h=>(by cases h),fun _=>rfl⟩
 rw[if_neg h1];have h1':cs.any longC=false:=by simpa using h1
 have hrc:=hr h1';by_cases h2:(partsL (x.ep:Int) (x.fr:Int) cs).2=false∨jN x.n<(partsL (x.ep:Int) (x.fr:Int) cs).1.length
 ·rw[if_pos h2]
  exact⟨hI,rfl,by show x.ep≤_;omega,hsame,fun _=>rfl,fun h=>(by cases h),fun _=>rfl⟩
 rw[if_neg h2];have C3:(partsL (x.ep:Int) (x.fr:Int) cs).2=true:=by
  rcases Bool.eq_false_or_eq_true (partsL (x.ep:Int) (x.fr:Int) cs).2 with h|h
  ·exact h
  ·exact(h2 (.inl h)).elim
 by_cases h3:fitB x.n (applyL x.rows cs)=false
 ·rw[if_pos h3]
  exact⟨hI,rfl,by show x.ep≤_;omega,hsame,fun _=>rfl,fun h=>(by cases h),fun _=>rfl⟩
 rw[if_neg h3];have h3':fitB x.n (applyL x.rows cs)=true:=by simpa using h3
 by_cases h4:x.us+(partsL (x.ep:Int) (x.fr:Int) cs).1.length≤jN x.n
 ·rw[if_pos h4]
  obtain⟨a1,a2,a3⟩:=put_step hI C3 h3' h4 hrc;exact⟨a1,put_n x cs,by show x.ep≤_;omega,fun hg K=>(a2 hg K).imp (fun h=>h.more (by omega)) (fun h=>h.more (by omega)),a3,fun _=>⟨h1',rfl⟩,fun h=>absurd rfl h⟩
 by_cases hov:x.ep=1073741824
 ·rw[if_neg h4,if_pos hov]
  exact⟨hI,rfl,by show x.ep≤_;omega,hsame,fun _=>rfl,fun h=>(by cases h),fun _=>rfl⟩
 rw[if_neg h4,if_neg hov];have he:x.ep<1073741824:=by have:=hI.good.ep;omega
 obtain⟨c1,c2,c3⟩:=ck_step hI.good (fun hg=>hI.fnd hg) he;have hp2:(partsL ((ckS x).ep:Int) ((ckS x).fr:Int) cs).2=true∧(partsL ((ckS x).ep:Int) ((ckS x).fr:Int) cs).1.length=(partsL (x.ep:Int) (x.fr:Int) cs).1.length:=by
  obtain⟨q1,q2,_,_,_,_⟩:=parts_of C3;have hq:(partsL ((ckS x).ep:Int) ((ckS x).fr:Int) cs).2=true:=by
   unfold partsL;have e1:(ckS x).ep=x.ep+1:=rfl;have e2:(ckS x).fr=0:=rfl;rw[e1,e2,if_neg (by omega),if_neg (by omega)]
  exact⟨hq,by rw[parts_count hq,parts_count C3]⟩
 obtain⟨p1,p2,p3⟩:=put_step c1 hp2.1 (by rw[ck_n];exact h3') (by rw[ck_n];show 0+_≤_;rw[hp2.2];omega) hrc;refine⟨p1,by rw[put_n,ck_n],Nat.le_refl _,fun hg K=>?_,fun hg=>by rw[p3 (by rw[c3 hg];exact hg),c3 hg],fun _=>⟨h1',rfl⟩,fun h=>absurd rfl h⟩;by_cases hgc:(ckS x).d.goes=true
 ·exact p2 hgc K
 ·left
  show Rcv _ (krash (putS (ckS x) cs).d K) _;rw[p3 (by simpa using hgc)];exact c2 hg K
theorem open_step{s:Sim}{B:Nat}{r:List Rw}(hok:OK s)(hl:s.loose= [])(hR:Rcv B s.firm r)(hB:B<1073741824):
  ∃y,openR s=(0,y)∧InvS y∧y.rows=r∧y.ep≤B+1∧1≤y.ep∧y.n=s.firm.length∧y.us=0∧(∀K,Rcv (B+1) (krash y.d K) r)∧(s.goes=false→y.d=s):=by
 obtain⟨ep,ar,l0,ps,h1,h2,h3,h4⟩:=hR;have ho:=open_hd hl h1 (by rw[h3];exact h4) (by omega);rw[h3] at ho;have hG:GoodX ⟨s,r,ep,ar,0,0⟩:=⟨h1.n,hok,fit_ex h4,h1.e2,h1.arl,Nat.zero_le _,Nat.le_refl _,by show s.loose.length≤_;rw[hl];exact Nat.zero_le _,fun _=>hl⟩
 have hF:s.goes=true→Fnd ⟨s,r,ep,ar,0,0⟩:=fun _=>⟨hl,l0,ps,h1,h3⟩
 obtain⟨c1,c2,c3⟩:=ck_step hG hF (show ep<1073741824 by omega);refine⟨_,ho,c1,rfl,by show ep+1≤_;omega,by show 1≤ep+1;omega,ck_n _,rfl,fun K=>?_,c3⟩;by_cases hg:s.goes=true
 ·exact(c2 hg K).more (by show ep+1≤_;omega)
 ·show Rcv (B+1) (kept (ckS _).d.firm (ckS _).d.loose K (ckS _).d.loose.length) r
  rw[c3 (by simpa using hg)];show Rcv (B+1) (kept s.firm s.loose K s.loose.length) r;rw[hl];exact⟨ep,ar,l0,ps,h1,by omega,h3,h4⟩
theorem and_snoc{a b c d e:Prop}(he:e)(h:a∧b∧c∧d):a∧b∧c∧d∧e:=⟨h.1,h.2.1,h.2.2.1,h.2.2.2,he⟩
theorem put_flush{s:Sim}{i:Nat}{b:List UInt8}(hf:s.fuse=none)(hl:s.loose= [])(hi:i<s.firm.length)(hb:b.length=64):(s.write (i:Int) b).flush.loose= []∧(s.write (i:Int) b).flush.firm=s.firm.set i b:=by
 rw[write_live hi (Nat.le_of_eq hb) (goes_none hf)];have hg:(s.put i b).goes=true:=goes_none (show s.fuse.map _=none by rw[hf];rfl);obtain⟨f1,f2⟩:=flush_live hg;have hpl:(s.put i b).loose= [(i,b)]:=by
  show s.loose++ [_]=_;rw[hl,pad_same hb];rfl
 refine⟨f2,?_⟩;rw[f1,hpl];rfl
theorem zeros_flush{s:Sim}{m:Nat}(hf:s.fuse=none)(hl:s.loose= [])(hm:m≤s.firm.length):
  (writeL s 0 (List.replicate m []) m).flush.loose= []∧(writeL s 0 (List.replicate m []) m).flush.fuse=none∧(writeL s 0 (List.replicate m []) m).flush.firm.length=s.firm.length∧
   ∀i,(writeL s 0 (List.replicate m []) m).flush.firm[i]? =if i<m then some (List.replicate 64 0) else s.firm[i]? :=by
 have dQ:=writeL_fuse hf 0 (List.replicate m []) m;have hg:=goes_none dQ;obtain⟨j,hj,h1,h2⟩:=writeL_run (s:=s) (a:=0) (ps:=List.replicate m []) (fun p hp=>by rw[List.eq_of_mem_replicate hp];exact Nat.zero_le _) m (by rw[List.length_replicate];exact Nat.le_refl _) (by omega);have hjm:j=m:=by
  rcases Nat.lt_or_ge j m with h|h
  ·rw[h2 h] at hg;cases hg
  ·omega
 subst hjm;rw[hl,List.nil_append] at h1;obtain⟨f1,f2⟩:=flush_live hg;refine⟨f2,flush_fuse dQ,by rw[flush_firm,writeL_firm],fun i=>?_⟩;rw[f1,h1,runL_len,writeL_firm,kept_run j (Nat.le_refl _)];by_cases hi:i<j
 ·rw[if_pos ⟨Nat.zero_le _,by omega,trues_get (by omega),by omega⟩,if_pos hi]
  congr 1
  rw[List.getD_eq_getElem?_getD,List.getElem?_replicate,if_pos (by omega)];rfl
 ·rw[if_neg (by omega),if_neg hi]
theorem zero_hok(most:Nat):Str.hOk (List.replicate 64 0) most=false:=by
 unfold Str.hOk;rw[if_neg];have:Str.hEp (List.replicate 64 (0:UInt8))=0:=by decide
 omega
theorem zero_wE:wE (List.replicate 64 0)=0:=by decide
theorem format_can{s:Sim}(hok:OK s)(hf:s.fuse=none)(hl:s.loose= [])(hn:64≤s.firm.length):(formatS s).fuse=none∧(formatS s).loose= []∧(formatS s).firm.length=s.firm.length∧Rcv 1 (formatS s).firm []∧HdA (formatS s).firm 1 0 [] ((buildL []).getD [])∧rowsOf (formatS s).firm 1 []= []∧fitB (formatS s).firm.length []=true∧OK (formatS s):=by
 obtain⟨p,hp⟩:=build_nil;have bj:=built_256 hp;have hA:=aN_le s.firm.length;have Fz:=aN_pos hn;obtain⟨z1,z2,z3,z4⟩:=zeros_flush (m:=2+jN s.firm.length) hf hl (by omega);have sA:formatS s=layS (writeL s 0 (List.replicate (2+jN s.firm.length) []) (2+jN s.firm.length)).flush 1 0 [p]:=by unfold formatS;rw[hp];rfl
 rw[sA];have z5:OK (writeL s 0 (List.replicate (2+jN s.firm.length) []) (2+jN s.firm.length)).flush:=(ok_writeL hok _ _ _ (by rw[hl];have:=hok.n;show 0+_<_;omega)).flush;generalize (writeL s 0 (List.replicate (2+jN s.firm.length) []) (2+jN s.firm.length)).flush=t at *;have uf:=firstN_le (n:=t.firm.length) (area:=0) (k:=1) (by omega) (by omega) (by rw[z3];omega);have hcl:=chunk64_len bj;have oC:=chunk64_all bj;simp only[List.length_singleton] at hcl;have hw:=writeL_flush (s:=t) (a:=firstN t.firm.length 0) (ps:=chunkL64 [p].flatten) z1 oC (by rw[hcl];exact uf) (goes_none (writeL_fuse z2 _ _ _));have hwf:=flush_fuse (writeL_fuse z2 (firstN t.firm.length 0) (chunkL64 [p].flatten) (chunkL64 [p].flatten).length);have wI:(writeL t (firstN t.firm.length 0) (chunkL64 [p].flatten) (chunkL64 [p].flatten).length).flush.firm.length=t.firm.length:=by rw[flush_firm,writeL_firm]
 have hge:=firstN_ge t.firm.length 0;refine⟨layS_fuse z2 _ _ _,layS_calm (goes_none (layS_fuse z2 _ _ _)),(layS_firm _ _ _ _).trans z3,?_⟩;have eT:OK (layS t 1 0 [p]):=ok_layS z5 _ _ bj (by rw[z1];show 0+1*4+1<100000;omega);rw[hp];show Rcv 1 (layS t 1 0 [p]).firm []∧HdA (layS t 1 0 [p]).firm 1 0 [] [p]∧rowsOf (layS t 1 0 [p]).firm 1 []= []∧fitB (layS t 1 0 [p]).firm.length []=true∧OK (layS t 1 0 [p]);refine and_snoc eT ?_;unfold layS;obtain⟨f1,f2⟩:=put_flush (i:=1) (b:=Str.headL 1 0 1) hwf hw.1 (by rw[wI];omega) (head_len _ _ _);show Rcv 1 (((writeL t (firstN t.firm.length 0) (chunkL64 [p].flatten) (chunkL64 [p].flatten).length).flush.write ((1:Nat):Int) (Str.headL 1 0 1)).flush.firm) []∧HdA (((writeL t (firstN t.firm.length 0) (chunkL64 [p].flatten) (chunkL64 [p].flatten).length).flush.write ((1:Nat):Int) (Str.headL 1 0 1)).flush.firm) 1 0 [] [p]∧rowsOf (((writeL t (firstN t.firm.length 0) (chunkL64 [p].flatten) (chunkL64 [p].flatten).length).flush.write ((1:Nat):Int) (Str.headL 1 0 1)).flush.firm) 1 []= []∧fitB (((writeL t (firstN t.firm.length 0) (chunkL64 [p].flatten) (chunkL64 [p].flatten).length).flush.write ((1:Nat):Int) (Str.headL 1 0 1)).flush.firm).length []=true;rw[f2];obtain⟨hw1,hw2⟩:=hw;generalize (writeL t (firstN t.firm.length 0) (chunkL64 [p].flatten) (chunkL64 [p].flatten).length).flush=u at *;have hsl:(u.firm.set 1 (Str.headL 1 0 1)).length=s.firm.length:=by rw[List.length_set,wI,z3]
 have hoth:∀i,i≠1→sec (u.firm.set 1 (Str.headL 1 0 1)) i=sec u.firm i:=fun i hi=>sec_get (by rw[List.getElem?_set,if_neg (fun h=>hi h.symm)])
 have hz:∀i,i<2+jN s.firm.length→sec u.firm i=List.replicate 64 0:=by
  intro i hi;refine sec_some ?_;rw[hw2,if_neg (by rw[z3] at hge⊢;omega),z4,if_pos hi]
 have tX:∀j,j<jN s.firm.length→wE (sec (u.firm.set 1 (Str.headL 1 0 1)) (2+j))=0:=by
  intro j hj;rw[hoth _ (by omega),hz _ (by omega),zero_wE]
 have hH:HdA (u.firm.set 1 (Str.headL 1 0 1)) 1 0 [] [p]:=by
  refine⟨by rw[hsl];exact hn,by rw[hsl];exact hok.n,fun x hx=>?_,Nat.le_refl _,by omega,by omega,hp,by rw[hsl];show 1≤_;omega,?_,?_,?_,?_⟩
  ·rcases List.mem_or_eq_of_mem_set hx with hx|rfl
   ·obtain⟨i,hi⟩:=List.getElem?_of_mem hx
    rw[hw2] at hi;split at hi
    ·obtain rfl:=Option.some.inj hi
     exact sec_len oC (by omega)
    ·rw[z4] at hi
     split at hi
     ·obtain rfl:=Option.some.inj hi
      exact List.length_replicate
     ·exact hok.f x (List.mem_of_getElem? hi)
   ·exact head_len _ _ _
  ·exact sec_some (by rw[List.getElem?_set,if_pos rfl,if_pos (by rw[wI];omega)];rfl)
  ·rw[hoth _ (by omega),hz _ (by omega),zero_hok]
   intro h;cases h
  ·intro j hj
   rw[hsl,←z3,hoth _ (by omega)];refine sec_some ?_;simp only[List.length_singleton] at hj;rw[hw2,if_pos ⟨by omega,by rw[hcl];omega⟩,Nat.add_sub_cancel_left]
  ·intro j hj
   rw[hsl] at hj;rw[tX j hj];omega
 have hJ:JrA (u.firm.set 1 (Str.headL 1 0 1)) 1 []:=⟨trivial,Nat.zero_le _,fun j hj=>absurd hj (Nat.not_lt_zero _),fun j _ hj=>by
  rw[hsl] at hj;rw[tX j hj];omega⟩
 have hft:fitB (u.firm.set 1 (Str.headL 1 0 1)).length []=true:=by
  rw[hsl];unfold fitB;rw[hp];exact decide_eq_true (by show 1≤_;omega)
 exact⟨⟨1,0,[],[p],hH,Nat.le_refl _,hJ.rows (by omega) [],hft⟩,hH,hJ.rows (by omega) [],hft⟩
abbrev dp(dg:Nat):Value:= .pointer (some ⟨dg,0,none⟩)
def OwnS(B dg:Nat)(w:World)(sv:Value)(x:Ss):Prop:=∃M:Nat→Prop,Sto dg M w sv x∧(∀k,M k→B≤k)∧B≤w.heap.size
section
variable {B dg:Nat} {w0 w w':World} {sv:Value} {x:Ss}
theorem OwnS.ptr(h:OwnS B dg w sv x):∃g,sv= .pointer (some ⟨g,0,none⟩):=by
 obtain⟨M,⟨D,R,g,rv,h1,_⟩,_⟩:=h;exact⟨g,h1⟩
theorem SDid.own{M:Nat→Prop}(hM:∀k,M k→B≤k)(hB:B≤w.heap.size)(h:SDid dg M w sv x w'):OwnS B dg w' sv x∧Below B w w':=by
 obtain⟨M',h1,h2,h3⟩:=h;exact⟨⟨M',h1,fun k hk=>by rcases h3 k hk with h|h;exact hM k h;omega,Nat.le_trans hB h2.size⟩,h2.below hM hB⟩
theorem StoA.redev{D D' R M:Nat→Prop}{g:Nat}{rv:Value}{s':Sim}(h:StoA D R M g dg rv w x)(hf:Fr D w w')(hd:Dev D' w' (dp dg) s')(hk:∀k,D' k→D k∨w.heap.size≤k):
  StoA D' R (fun k=>D' k∨k=g∨R k) g dg rv w' {x with d:=s'}:=by
 refine⟨hd,fun hg=>?_,fun k hr=>⟨fun hd'=>?_,(h.hR k hr).2.1,Nat.lt_of_lt_of_le (h.hR k hr).2.2 hf.size⟩,fun k=>Iff.rfl,h.blk.same (hf.block g h.blk.lt h.hg),h.rows.keep hf.size (fun k hr=>hf.block k (h.hR k hr).2.2 (h.hR k hr).1)⟩
 ·rcases hk g hg with h1|h1
  ·exact h.hg h1
  ·have:=h.blk.lt;omega
 ·rcases hk k hd' with h1|h1
  ·exact(h.hR k hr).1 h1
  ·have:=(h.hR k hr).2.2;omega
theorem own_rowsS(h:OwnS B dg w sv x)(hG:GoodX x):Calls Tryz.prog 32 #[sv] w fun e w'=>∃v,e= .returned v∧OR 5 78 w' w.heap.size v x.rows∧Below w.heap.size w w':=by
 obtain⟨M,h1,_⟩:=h;exact rowsS_any h1 (by have:=(rows_few_ hG).2;omega) (fun r hr=>by have:=rows_val hG r hr;omega)
theorem own_epochS(h:OwnS B dg w sv x):Calls Tryz.prog 36 #[sv] w fun e w'=>e= .returned (.int .i64 (x.ep:Int))∧w=w':=by
 obtain⟨M,h1,_⟩:=h;exact epoch_any h1
theorem oc_fr{M:Nat→Prop}{base:Nat}{lv:Value}{cs:List Chg}(h:OC 5 76 w base lv cs)(hf:Fr M w w')(hM:∀k,M k→k<base):OC 5 76 w' base lv cs:=by
 obtain⟨us,h1,ho,bB⟩:=h;refine⟨us,h1,own_same ho (fun k hk=>?_),fun y hy=>?_⟩
 ·have hl:=ho.lt k hk
  exact hf.block k hl.2 (fun hm=>by have:=hM k hm;omega)
 ·rcases bB y hy with h|⟨g,c,cur,fr,e1,e2,e3,e4⟩
  ·exact .inl h
  ·exact .inr ⟨g,c,cur,fr,e1,e2,(hf.block g (Array.getElem?_eq_some_iff.1 e3).1 (fun hm=>by have:=hM g hm;omega)).trans e3,e4⟩
theorem oc_co{M:Nat→Prop}{base:Nat}{lv:Value}{cs:List Chg}(h:OC 5 76 w base lv cs)(hM:∀k,M k→k<base):CO M w lv cs:=fun _ hf=>(oc_fr h hf hM).rc
theorem own_commitS{lv:Value}{cs:List Chg}(h:OwnS B dg w0 sv x)(ad:Below w0.heap.size w0 w)(hG:GoodX x)(hc:OC 5 76 w w0.heap.size lv cs)(hcn:cs.length≤5000)(hcs:sizesC cs≤90000):
  Calls Tryz.prog 25 #[sv,lv] w fun e w'=>e= .returned (.int .u16 ((commitR x cs).2:Int))∧OwnS B dg w' sv (commitR x cs).1∧Below B w w'∧OC 5 76 w' w0.heap.size lv cs:=by
 obtain⟨M,h1,h2,h3⟩:=h;obtain⟨q1,q2⟩:=chgsB_few cs hcs;refine(commit_any (h1.below ad) hG (oc_co hc h1.lt) (by omega) (by omega) q2).mono ?_;rintro e w'⟨he,hd⟩;obtain⟨a1,a2⟩:=hd.own h2 (Nat.le_trans h3 ad.size);obtain⟨M',_,d2,_⟩:=hd;exact⟨he,a1,a2,oc_fr hc d2 h1.lt⟩
theorem own_formatS{s:Sim}(h:Dv.Own B w (dp dg) s)(hn:64≤s.firm.length)(hl:s.loose.length≤40000):Calls Tryz.prog 12 #[dp dg] w fun e w'=>e= .returned (.int .u16 0)∧Dv.Own B w' (dp dg) (formatS s)∧Below B w w':=by
 obtain⟨D,h1,h2,h3⟩:=h;refine(format_st h1 hn hl).mono ?_;rintro e w'⟨he,hd⟩;exact⟨he,Own.did h2 h3 hd⟩
theorem own_openS{s:Sim}(h:Dv.Own B w (dp dg) s)(hn:64≤s.firm.length)(hlo:s.loose.length≤8000)(dO:s.goes=true→s.loose= []):
  Calls Tryz.prog 14 #[dp dg] w fun e w'=>∃sv,e= .returned (.tuple #[sv,.int .u16 ((openR s).1:Int)])∧Below B w w'∧(((openR s).1≠0∧sv= .pointer none∧Dv.Own B w' (dp dg) s)∨((openR s).1=0∧OwnS B dg w' sv (openR s).2)):=by
 obtain⟨D,h1,h2,h3⟩:=h;refine(open_any h1 hn hlo dO).mono ?_;rintro e w'⟨sv,he,h4⟩;refine⟨sv,he,?_⟩;rcases h4 with ⟨a1,a2,a3⟩|⟨a1,M',a2,a3,a4⟩
 ·exact⟨a3.mono h3,.inl ⟨a1,a2,⟨D,h1.below a3,h2,Nat.le_trans h3 a3.size⟩⟩⟩
 ·exact⟨a3.below h2 h3,.inr ⟨a1,M',a2,fun k hk=>by rcases a4 k hk with h|h;exact h2 k h;omega,Nat.le_trans h3 a3.size⟩⟩
theorem own_openOk{s:Sim}{y:Ss}(h:Dv.Own B w (dp dg) s)(hn:64≤s.firm.length)(hlo:s.loose= [])(ho:openR s=(0,y)):
  Calls Tryz.prog 14 #[dp dg] w fun e w'=>∃sv,e= .returned (.tuple #[sv,.int .u16 0])∧OwnS B dg w' sv y∧Below B w w':=by
 refine(own_openS h hn (by rw[hlo];exact Nat.zero_le _) (fun _=>hlo)).mono ?_;rintro e w'⟨sv,he,hb,h4⟩;rw[ho] at he h4;rcases h4 with ⟨a1,_⟩|⟨_,a2⟩
 ·exact(a1 rfl).elim
 ·exact⟨sv,he,a2,hb⟩
end
def openedS(s:Sim):Ss:=ckS ⟨formatS s,[],1,0,0,0⟩
theorem open_format{s:Sim}(hok:OK s)(hf:s.fuse=none)(hl:s.loose= [])(hn:64≤s.firm.length):
  openR (formatS s)=(0,openedS s)∧InvS (openedS s)∧(openedS s).d.fuse=none∧(openedS s).n=s.firm.length∧(formatS s).loose= []∧64≤(formatS s).firm.length:=by
 obtain⟨f1,f2,f3,f4,g1,g2,g3,g4⟩:=format_can hok hf hl hn;unfold openedS;generalize formatS s=t at *;have ho:=open_hd f2 g1 (by rw[g2];exact g3) (by omega);rw[g2] at ho;have hG:GoodX ⟨t,[],1,0,0,0⟩:=⟨by show 64≤t.firm.length;rw[f3];exact hn,g4,fit_ex g3,by show 1≤1073741824;omega,by show 0≤1;omega,Nat.zero_le _,Nat.le_refl _,by show t.loose.length≤8000;rw[f2];exact Nat.zero_le _,fun _=>f2⟩
 obtain⟨c1,_,_⟩:=ck_step hG (fun _=>⟨f2,[],_,g1,g2⟩) (show 1<1073741824 by omega);exact⟨ho,c1,layS_fuse f1 _ _ _,(ck_n _).trans f3,f2,by rw[f3];exact hn⟩
theorem oc_lit1{w:World}{b0:Nat}{k:ByteArray}{u:Value}{l:List UInt8}{g:Bool}(hu:FB 5 w b0 u l)(hb:b0≤w.heap.size):
  OC 5 76 (w.alloc (.cells #[.string k,u,.bool g] 76)) b0 (.slice (some ⟨w.heap.size,0,none⟩) 1 1) [(k,l,g)]:=by
 refine⟨[((k,l,g),u)],rfl,⟨by simp[chCells],.inr ⟨w.heap.size,1,#[.string k,u,.bool g],rfl,hb,heap_alloc_new w _,Nat.le_refl _,by unfold maxLen;omega,by simp,by simp[chCells]⟩⟩,fun x hx=>?_⟩;simp only[List.mem_singleton] at hx;subst hx;exact hu.below ((Below.refl _ _).alloc (Nat.le_refl _) _)
theorem ex_readC:readChgs (chgsL [(⟨#[97]⟩,[],false)])=([(⟨#[97]⟩,[],false)],0):=by decide +kernel
theorem sizesC_one(c:Chg):sizesC [c]=c.1.size+c.2.1.length:=by simp[sizesC]
theorem first_commit{x:Ss}(hn:x.n=64)(fg:x.ep=2)(ah:x.us=0)(ay:x.fr=0)(hr:x.rows= []):(commitR x [(⟨#[97]⟩,[],false)]).2=0∧(commitR x [(⟨#[97]⟩,[],false)]).1.rows= [(⟨#[97]⟩,[])]:=by
 have hp:(partsL (x.ep:Int) (x.fr:Int) [(⟨#[97]⟩,[],false)]).2=true:=by
  rw[fg,ay];unfold partsL;rw[if_neg (by omega),if_neg (by decide +kernel)]
 have hl:(partsL (x.ep:Int) (x.fr:Int) [(⟨#[97]⟩,[],false)]).1.length=1:=by rw[parts_count hp];decide +kernel
 have ha:applyL x.rows [(⟨#[97]⟩,[],false)]= [(⟨#[97]⟩,[])]:=by rw[hr];rfl
 have hf:fitB x.n (applyL x.rows [(⟨#[97]⟩,[],false)])=true:=by rw[ha,hn];decide +kernel
 have hj:jN x.n=16:=by rw[hn];rfl
 unfold commitR;rw[if_neg (by simp),if_neg (by decide),if_neg (by rw[hp,hl,hj];decide),if_neg (by rw[hf];decide),if_pos (by rw[hl,ah,hj];decide)];exact⟨rfl,ha⟩
def sizeN(k:Nat):Nat:= [64,65,80,100,128,200].getD (k%6) 0
theorem sizeN_in(k:Nat):64≤sizeN k∧sizeN k≤200:=by
 unfold sizeN;have h:k%6<6:=by omega
 generalize k%6=c at h;rcases(show c=0∨c=1∨c=2∨c=3∨c=4∨c=5 by omega) with rfl|rfl|rfl|rfl|rfl|rfl <;>decide
theorem size_any(k:Nat)(hk:k≤255)(w:World):Calls Tryz.prog 27 #[.int .u8 (k:Int)] w fun e w'=>e= .returned (.int .i64 (sizeN k:Int))∧Below w.heap.size w w':=by
 unfold sizeN;obtain⟨c,hc⟩:∃c,c=k%6:=⟨_,rfl⟩
 have hm:(k:Int)%6=(c:Int):=by omega
 have hm2:(k:Int).tmod 6=(c:Int):=by rw[Int.tmod_eq_emod_of_nonneg (by omega)];exact hm
 have wn:c<6:=by omega
 rw[←hc];clear hc hm;have HM:=qH hm2;go_enter Tryz.func27,Tryz.ntmps27;go_wp2;go_ret;refine⟨?_,(Below.refl _ _).alloc (Nat.le_refl _) _⟩;rcases(show c=0∨c=1∨c=2∨c=3∨c=4∨c=5 by omega) with rfl|rfl|rfl|rfl|rfl|rfl <;>rfl
theorem layout64(w:World):Calls Tryz.prog 29 #[.int .i64 64] w fun e w'=>e= .returned (.tuple #[.int .i64 16,.int .i64 5])∧w=w':=layout_any 64 (by omega) (by omega) w
theorem knownS_any(w:World):Calls Tryz.prog 10 #[] w fun e w'=>e= .returned (.bool true)∧Below w.heap.size w w':=by
 have cY:=open_format (s:=Sim.new 64) (OK.new (by omega)) rfl rfl (by rw[new_firm];omega);obtain⟨o1,o2,o3,o4,o5,o6⟩:=cY;have fg:(openedS (Sim.new 64)).ep=2:=rfl;have eC:(openedS (Sim.new 64)).rows= []:=rfl;have hfc:=first_commit (x:=openedS (Sim.new 64)) (by rw[o4,new_firm]) fg rfl rfl eC;obtain⟨S,hS⟩:∃S,S=Sim.new 64:=⟨_,rfl⟩
 rw[←hS] at o1 o2 o3 o4 o5 o6 fg eC hfc;obtain⟨Y,hY⟩:∃Y,Y=openedS S:=⟨_,rfl⟩
 rw[←hY] at o1 o2 o3 o4 fg eC hfc;obtain⟨Z,hZ⟩:∃Z,Z=commitR Y [(⟨#[97]⟩,[],false)]:=⟨_,rfl⟩
 have hcs:=commit_step (cs:= [(⟨#[97]⟩,[],false)]) o2 (fun _=>ex_readC);rw[←hZ] at hfc hcs;have Hz:=qH hcs.1;have HC:=qH hfc;have iO:=qH o1;have HI:=qH o2;have dK:=qH o5;have jZ:=qH o6;have rd:=qH fg;have rh:=qH eC;have HS:=qH hS;have HZ:=qH hZ;clear o1 o2 o3 o4 o5 o6 fg eC hfc hS hY hcs hZ;go_enter Tryz.func10,Tryz.ntmps10;go_wp2_with (go_at_call 29;refine(layout64 _).mono ?_;rintro e w1 ⟨rfl,rfl⟩)
 refine(own_new (B:=w.heap.size) 64 w (by omega) (Nat.le_refl _)).mono ?_;rintro e w1⟨dg,rfl,hown,hb1⟩;rw[←HS.out] at hown;have HF:=qH (own_formatS hown (by rw[HS.out,new_firm];omega) (by rw[HS.out];exact Nat.zero_le _));have an:=qH hb1;clear hown hb1;go_wp2_with fail
 go_at_call 12;refine HF.out.mono ?_;rintro e w2⟨rfl,hown2,hb2⟩;have b8:=qH (own_openOk hown2 jZ.out dK.out iO.out);have ae:=qH (an.out.trans hb2);clear hown2 hb2;go_wp2_with fail
 go_at_call 14;refine b8.out.mono ?_;rintro e w3⟨sv,rfl,hst,hb3⟩;have ak:=qH (ae.out.trans hb3);obtain⟨g,rfl⟩:=hst.ptr;have HST:=qH hst;have he:=own_epochS hst;rw[rd.out] at he;have HE:=qH he;have eC:=own_rowsS hst HI.out.good;rw[rh.out] at eC;have Es:=qH eC;clear hst hb3 he eC;go_wp2_with fail
 go_at_call 36;refine HE.out.mono ?_;rintro e w4⟨rfl,rfl⟩;go_wp2_with fail
 go_at_call 32;refine Es.out.mono ?_;rintro e w4⟨rv,rfl,aK,hb4⟩;obtain⟨A4,c4,rfl⟩:=or_shape aK;have ai:=qH hb4;clear aK hb4;go_wp2_with fail
 go_at_call 25;obtain⟨W,hW⟩:∃W,W=w4.alloc (Obj.cells #[Value.string {data:=#[97]},Value.slice none 0 0,Value.bool false] 76):=⟨_,rfl⟩
 have dD:OC 5 76 W w3.heap.size (.slice (some ⟨w4.heap.size,0,none⟩) 1 1) [(⟨#[97]⟩,[],false)]:=by
  rw[hW];exact oc_lit1 (.inl ⟨rfl,rfl⟩) ai.out.size
 have hbW:Below w3.heap.size w3 W:=by
  rw[hW];exact ai.out.alloc ai.out.size _
 rw[←hW];have hcm:=own_commitS HST.out hbW HI.out.good dD (by decide) (by rw[sizesC_one];decide);rw[←HZ.out,HC.out.1] at hcm;have Jl:=qH hcm;have aw:=qH (ak.out.trans (hbW.mono ak.out.size));clear dD hbW hcm hW;refine Jl.out.mono ?_;rintro e w5⟨rfl,aP,au,_⟩;have hr2:=own_rowsS aP Hz.out.good;rw[HC.out.2] at hr2;have cM:=qH hr2;have ax:=qH (aw.out.trans au);clear aP au hr2;go_wp2_with fail
 go_at_call 32;refine cM.out.mono ?_;rintro e w6⟨K7,rfl,fA,ap⟩;obtain⟨A6,c6,rfl⟩:=or_shape fA;have aE:=qH (ax.out.trans (ap.mono ax.out.size));clear fA ap;go_wp2;go_ret;exact⟨rfl,aE.out⟩
theorem leavePR{W:World}{tmps:Array Value}{g:Nat}{z0 z1 z2 z3 z4 z5 d:Value}(h4:tmps.getD 3 undef= .pointer (some ⟨g,0,none⟩))(h5:tmps.getD 2 undef=d)(hb:Dv.Blk W g 29 #[z0,z1,z2,z3,z4,z5]):
  (results Tryz.f11 tmps).run Tryz.prog W= .ok (.tuple #[d,.agg #[z0,z1,z2,z3,z4,z5]]) W:=by
 obtain⟨r0,r1,r2,r3,r4,r5⟩:=cl6 hb;rw[Array.getD_eq_getD_getElem?] at h4 h5

 simp[results,h4,h5,r0,r1,r2,r3,r4,r5,go_sem]
def sixD(w:World)(g:Nat)(v0 v1 v2 v3 v4 v5:Value):World:=((((((w.setCell ⟨g,0,none⟩ v0).setCell ⟨g,1,none⟩ v1).setCell ⟨g,2,none⟩ v2).setCell ⟨g,3,none⟩ v3).setCell ⟨g,4,none⟩ v4).setCell ⟨g,5,none⟩ v5).drew
theorem sixD_far{w:World}{g b:Nat}{t:TypeId}{cs:Array Value}(h:Dv.Blk w b t cs)(hne:b≠g)(v0 v1 v2 v3 v4 v5:Value):Dv.Blk (sixD w g v0 v1 v2 v3 v4 v5) b t cs:=by
 have h6:=(((((h.far (p:=⟨g,0,none⟩) hne v0).far (p:=⟨g,1,none⟩) hne v1).far (p:=⟨g,2,none⟩) hne v2).far (p:=⟨g,3,none⟩) hne v3).far (p:=⟨g,4,none⟩) hne v4).far (p:=⟨g,5,none⟩) hne v5;unfold sixD;exact h6.below (Below.refl _ _).drew h6.lt
theorem sixD_here{w:World}{g:Nat}{t:TypeId}{z0 z1 z2 z3 z4 z5:Value}(h:Dv.Blk w g t #[z0,z1,z2,z3,z4,z5])(v0 v1 v2 v3 v4 v5:Value):Dv.Blk (sixD w g v0 v1 v2 v3 v4 v5) g t #[v0,v1,v2,v3,v4,v5]:=by
 have h6:=blk_six h v0 v1 v2 v3 v4 v5;unfold sixD;exact h6.below (Below.refl _ _).drew h6.lt
theorem sixD_fr(w:World)(g:Nat)(v0 v1 v2 v3 v4 v5:Value):Fr (fun j=>j=g) w (sixD w g v0 v1 v2 v3 v4 v5):=(fr_six (Fr.refl (fun j=>j=g) w) (.inl rfl) v0 v1 v2 v3 v4 v5).drew
theorem sixD_def(w:World)(g:Nat)(v0 v1 v2 v3 v4 v5:Value):((((((w.setCell ⟨g,0,none⟩ v0).setCell ⟨g,1,none⟩ v1).setCell ⟨g,2,none⟩ v2).setCell ⟨g,3,none⟩ v3).setCell ⟨g,4,none⟩ v4).setCell ⟨g,5,none⟩ v5).drew=sixD w g v0 v1 v2 v3 v4 v5:=rfl
theorem pair_any(k:Nat)(hk:k≤255)(w:World):Calls Tryz.prog 11 #[.int .u8 (k:Int)] w fun e w'=>∃dg tv,e= .returned (.tuple #[dp dg,tv])∧
  (∃(D:Nat→Prop) (m:Nat),Dev D w' (dp dg) (Sim.new (sizeN k))∧(∀j,D j→w.heap.size≤j∧j<m)∧TRd (fun j=>j<m) w' tv (Sim.new (sizeN k)))∧Below w.heap.size w w':=by
 obtain⟨s1,s2⟩:=sizeN_in k;have hs:=fun X=>size_any k hk X
 obtain⟨n,hn⟩:∃n,n=sizeN k:=⟨_,rfl⟩
 rw[←hn] at hs s1 s2⊢;have ig:=qH hs;clear hs hn;obtain⟨Z,hZ⟩:∃Z,Z=Obj.cells (tsD (.slice none 0 0)) 29:=⟨_,rfl⟩
 have HZ:=qH hZ;clear hZ;go_enter Tryz.func11,Tryz.ntmps11;go_wp2_with (go_at_call 27;refine(ig.out _).mono ?_;rintro e w1 ⟨rfl,hb1⟩)
 have hbz:Below w.heap.size w (w.alloc (Obj.cells (tsD (.slice none 0 0)) 29)):=(Below.refl _ _).alloc (Nat.le_refl _) _;have dt:Dv.Blk (w.alloc (Obj.cells (tsD (.slice none 0 0)) 29)) w.heap.size 29 (tsD (.slice none 0 0)):=heap_alloc_new w _;have bJ:Below w.heap.size w w1:=hbz.trans (hb1.mono hbz.size);have hk1:=dt.below hb1 dt.lt;refine(own_new (B:=w1.heap.size) n w1 (by omega) (Nat.le_refl _)).mono ?_;rintro e w2⟨dg,rfl,hown,hb2⟩;have bw:=qH (hk1.below hb2 hk1.lt);have ae:=qH (bJ.trans (hb2.mono bJ.size));obtain⟨D,pi,D0,Jj⟩:=hown;have HD:=qH pi;have yb:=qH (fun k (hk:D k)=>Nat.le_trans bJ.size (D0 k hk));have Kr:=qH (fun k (hk:D k)=>Nat.lt_of_lt_of_le hk1.lt (D0 k hk));clear hb1 hb2 dt hk1 hbz bJ pi D0 Jj;go_wp2_with (go_at_call 27;refine(ig.out _).mono ?_;rintro e w3 ⟨rfl,hb3⟩)
 have hk3:=bw.out.below hb3 bw.out.lt;have hd3:=HD.out.below hb3;have aZ:=ae.out.trans (hb3.mono ae.out.size);refine(refnew_any (A:=fun j=>j<w3.heap.size) n w3 (by omega) (fun k hk=>hk)).mono ?_;rintro e w4⟨tv,rfl,htr,hb4⟩;have km:=qH htr;obtain⟨vS,vL,lf,c2,c3,rfl,hS,hL,_⟩:=htr;obtain⟨aS,cS,rfl,_⟩:=hS.shape;obtain⟨aL,cL,rfl,_⟩:=hL.shape;rw[show(Sim.new n).loose.length=0 from rfl,show(Sim.new n).fuse.isSome=false from rfl,new_firm] at km⊢;have t0:=qH (hk3.below hb4 hk3.lt);have Kv:=qH (hd3.below hb4);have ai:=qH (aZ.trans (hb4.mono aZ.size));have jO:=qH hd3.lt;have Dd:=qH (show w.heap.size<w3.heap.size from hk3.lt);have EJ:=qH hb4.size;clear hk3 hd3 aZ hb3 hb4 hS hL;obtain⟨Q,hQ⟩:∃Q,Q=Obj.cells #[.slice aS n cS,.slice aL 0 cL,.int .i64 c2,.int .i64 c3,.bool false,.int .i64 lf] 29:=⟨_,rfl⟩
 have bD:Dv.Blk (w4.alloc Q) w4.heap.size 29 #[.slice aS n cS,.slice aL 0 cL,.int .i64 c2,.int .i64 c3,.bool false,.int .i64 lf]:=by rw[hQ];exact heap_alloc_new w4 _
 have au:Below w4.heap.size w4 (w4.alloc Q):=(Below.refl _ _).alloc (Nat.le_refl _) _;have fC:=qH (show Dv.Blk (w4.alloc Q) w4.heap.size 29 #[.slice aS n cS,.slice aL 0 cL,.int .i64 c2,.int .i64 c3,.bool false,.int .i64 lf] from bD);have lZ:=qH (t0.out.below au t0.out.lt);have ax:=qH au;have HQ:=qH hQ;have fZ:=qH (show w4.heap.size≠w.heap.size by have:=t0.out.lt;omega);clear bD au hQ;go_wp2_with fail
 rw[←HQ.out];refine wp_region_held_drew (S:=fun X=>Dv.Blk X w4.heap.size 29 #[.slice aS n cS,.slice aL 0 cL,.int .i64 c2,.int .i64 c3,.bool false,.int .i64 lf]∧True) (by kernel_rfl) ⟨fC.out,trivial⟩ (fun hHeld=>?_);refine tkC 0 ?_;refine tkA 1 (v:=?_) ?_ ?_;rotate_left
 ·intro X hSw;have z0:=hSw.1.cell 0;have z1:=hSw.1.cell 1;have z2:=hSw.1.cell 2;have z3:=hSw.1.cell 3;have z4:=hSw.1.cell 4;have z5:=hSw.1.cell 5;simp at z0 z1 z2 z3 z4 z5;go_simp;try (with_reducible rfl)
 try simp only[Act.put,zA,zB,zC]
 refine tkC 2 ?_;refine rdA (rs:= [3]) ?_;refine arC (fun K hK=>?_);have y0:=lZ.out.cell 0;have y1:=lZ.out.cell 1;have y2:=lZ.out.cell 2;have y3:=lZ.out.cell 3;have y4:=lZ.out.cell 4;have y5:=lZ.out.cell 5;unfold tsD at y0 y1 y2 y3 y4 y5;simp at y0 y1 y2 y3 y4 y5;have Iy:=lZ.out.frozen 0;have JM:=lZ.out.frozen 1;have I8:=lZ.out.frozen 2;have J8:=lZ.out.frozen 3;have J3:=lZ.out.frozen 4;have Jg:=lZ.out.frozen 5;go_simp;rw[sixD_def];clear y0 y1 y2 y3 y4 y5 Iy JM I8 J8 J3 Jg;have ac:=(show Dv.Blk (sixD (w4.alloc Q) w.heap.size (.slice aS n cS) (.slice aL 0 cL) (.int .i64 c2) (.int .i64 c3) (.bool false) (.int .i64 lf)) w4.heap.size 29 #[.slice aS n cS,.slice aL 0 cL,.int .i64 c2,.int .i64 c3,.bool false,.int .i64 lf]∧True from⟨sixD_far fC.out fZ.out _ _ _ _ _ _,trivial⟩)
 refine hK.out _ _ ?_ (fun _=>?_)
 ·exact ac
 clear hK K hHeld;have hHeld:=ac;clear ac;try simp only[Act.put,zA,zB,zC]
 refine wpAnyH_done (by kernel_rfl) ?_ _;clear hHeld;have hblk:=sixD_here (w:=w4.alloc Q) (g:=w.heap.size) (by have h:=lZ.out;unfold tsD at h;exact h) (.slice aS n cS) (.slice aL 0 cL) (.int .i64 c2) (.int .i64 c3) (.bool false) (.int .i64 lf);have ay:=sixD_fr (w4.alloc Q) w.heap.size (.slice aS n cS) (.slice aL 0 cL) (.int .i64 c2) (.int .i64 c3) (.bool false) (.int .i64 lf);generalize (sixD (w4.alloc Q) w.heap.size (.slice aS n cS) (.slice aL 0 cL) (.int .i64 c2) (.int .i64 c3) (.bool false) (.int .i64 lf))=W6 at hblk ay⊢;have kM:=qH hblk;have dr:=qH ay;clear hblk ay;go_wp2;refine bodyPost_ret (leavePR rfl rfl kM.out) rfl ?_;have au:=ax.out;have hlt:=EJ.out;have hw3:=Dd.out;have hf:=(Fr.of_below (D:=fun j=>j=w.heap.size) au).trans dr.out (fun _ h=> .inl h);refine⟨_,_,rfl,⟨D,w3.heap.size,Kv.out.fr hf (fun j hj hd=>?_),fun j hj=>⟨yb.out j hj,jO.out j hj⟩,km.out.fr hf (fun j hj=>?_) (fun j hj=> .inl hj)⟩,ai.out.trans (hf.below (fun j hj=>?_) ai.out.size)⟩
 ·have:=Kr.out j hd;omega
 ·omega
 ·omega
def BK(w:World)(v:Value)(K:List Bool):Prop:=
 ∃A c,v= .slice A K.length c∧(K= []∨∃b off,A=some ⟨b,off,none⟩∧b<w.heap.size∧∀j (h:j<K.length),w.cell? ⟨b,off+j,none⟩=some (.bool K[j]))
structure Deed where
 kind:Nat
 c:List UInt8
 keep:List Bool
 fuse:Nat
def DeedAt(w:World)(b o:Nat)(x:Deed):Prop:=
 w.cell? ⟨b,o,none⟩=some (.int .u8 (x.kind:Int))∧(∃u,w.cell? ⟨b,o+1,none⟩=some u∧RB w u x.c)∧(∃u,w.cell? ⟨b,o+2,none⟩=some u∧BK w u x.keep)∧w.cell? ⟨b,o+3,none⟩=some (.int .u8 (x.fuse:Int))∧
  x.kind≤255∧x.fuse≤255∧x.c.length≤140737488351232∧x.keep.length≤140737488351232
def DS(w:World)(v:Value)(l:List Deed):Prop:=
 ∃A c,v= .slice A l.length c∧l.length≤140737488351232∧(l= []∨∃b off,A=some ⟨b,off,none⟩∧b<w.heap.size∧∀j (h:j<l.length),DeedAt w b (off+j*4) l[j])
theorem BK.below{w w':World}{v:Value}{K:List Bool}(h:BK w v K)(hb:Below w.heap.size w w'):BK w' v K:=by
 obtain⟨A,c,rfl,h1⟩:=h;refine⟨A,c,rfl,?_⟩;rcases h1 with h1|⟨b,off,rfl,hbb,hc⟩
 ·exact .inl h1
 ·exact .inr ⟨b,off,rfl,Nat.lt_of_lt_of_le hbb hb.size,fun j hj=>(hb.cell (p:=⟨b,off+j,none⟩) hbb).trans (hc j hj)⟩
theorem BK.kb{w:World}{v:Value}{K:List Bool}(h:BK w v K){D:Nat→Prop}(hD:∀k,D k→w.heap.size≤k):KB D w v K:=by
 obtain⟨A,c,rfl,h1⟩:=h;exact⟨A,c,rfl,h1.imp id fun⟨b,off,e,hb,hc⟩=>⟨b,off,e,hb,fun hd=>by have:=hD b hd;omega,hc⟩⟩
theorem DS.below{w w':World}{v:Value}{l:List Deed}(h:DS w v l)(hb:Below w.heap.size w w'):DS w' v l:=by
 obtain⟨A,c,rfl,h1,h2⟩:=h;refine⟨A,c,rfl,h1,?_⟩;rcases h2 with h2|⟨b,off,rfl,hbb,hd⟩
 ·exact .inl h2
 ·refine .inr ⟨b,off,rfl,Nat.lt_of_lt_of_le hbb hb.size,fun j hj=>?_⟩
  obtain⟨d0,⟨u1,d2,d3⟩,⟨u2,d4,d5⟩,d6,d7⟩:=hd j hj;have e:∀o,w'.cell? ⟨b,o,none⟩=w.cell? ⟨b,o,none⟩:=fun o=>hb.cell (p:=⟨b,o,none⟩) hbb
  exact⟨(e _).trans d0,⟨u1,(e _).trans d2,d3.below hb⟩,⟨u2,(e _).trans d4,d5.below hb⟩,(e _).trans d6,d7⟩
theorem DS.at_{w:World}{A:Option Addr}{c m k:Nat}{l:List Deed}(h:DS w (.slice A m c) l)(hm:m=l.length)(hk:k<m):
  ∃b off x,A=some ⟨b,off,none⟩∧b<w.heap.size∧l[k]? =some x∧DeedAt w b (off+k*4) x:=by
 subst hm;obtain⟨A',c',he,_,h2⟩:=h;injection he with he _ _;subst he;rcases h2 with h2|⟨b,off,rfl,hb,hd⟩
 ·rw[h2] at hk;cases hk
 ·exact⟨b,off,_,rfl,hb,List.getElem?_eq_getElem hk,hd k hk⟩
def FewD(l:List Deed):Prop:=l.length≤2000000∧∀x∈l,x.c.length≤3000000∧x.keep.length≤3000000
def MuchR(l:List Deed)(w:World)(e:Ending)(w':World):Prop:=∃r:Bool,e= .returned (.bool r)∧(r=false→FewD l→l.length≤200)∧Below w.heap.size w w'
theorem muchS_any{v:Value}{l:List Deed}{w:World}(h:DS w v l):
  Calls Tryz.prog 9 #[v] w (MuchR l w):=by
 have HD:=qH h;obtain⟨A,c,rfl,hl,_⟩:=h;obtain⟨m,hm⟩:∃m,m=l.length:=⟨_,rfl⟩
 rw[←hm] at HD hl⊢;have HM:=qH hm;clear hm;go_enter Tryz.func9,Tryz.ntmps9;go_wp2
 go_loopw [3,4] (fun n i wr=>∃(z:Int) (k:Nat),n= .int .i64 z∧(FewD l→(k:Int)≤z∧z≤(k:Int)*6000000)∧k≤m∧i= .int .i64 k∧Below w.heap.size w wr) (fun _ i _=>m-(intOf i).toNat)
 case atStart=>exact⟨_,0,rfl,fun _=>by omega,Nat.zero_le _,rfl,Below.refl _ _⟩
 case round=>
  obtain⟨z,k,rfl,hz,hk,rfl,ad⟩:=hrel;have HZ:=qH hz;clear hz;by_cases hlt:k<m
  ·obtain⟨b,off,x,hA,hbb,hx,hd⟩:=(HD.out.below ad).at_ HM.out hlt
   subst hA;obtain⟨_,⟨u2,d2,A2,c2,e2,q2,q3,_⟩,⟨u3,d3,A3,c3,e3,_⟩,_,_,_,l2,l3⟩:=hd;subst e2;subst e3;have jL:=qH ad;have HX:=qH hx;clear ad hx;have i6:(k:Int)<(m:Int):=by omega
   go_wp2_with fail
   go_quiet (fail)
   go_wp2;go_roundw
   case rel=>
    refine⟨_,k+1,rfl,fun hf=>?_,by omega,by go_num,jL.out.trans ((bel_drewN _ _).mono jL.out.size)⟩;obtain⟨h1,h2⟩:=HZ.out hf;have h3:=hf.2 x (List.mem_of_getElem? HX.out);have h4:=hf.1;have h5:k≤2000000:=by have:=HM.out;omega
    have h6:wrap64 (z+(1+(x.c.length:Int)+(x.keep.length:Int)/8))=z+(1+(x.c.length:Int)+(x.keep.length:Int)/8):=by unfold wrap64;omega
    rw[h6];omega
   case measure=>simp[intOf];omega
  ·obtain rfl:k=m:=by omega
   have hm2:¬(k:Int)<(k:Int):=by omega
   have jL:=qH ad;clear ad;by_cases h60:200<z
   ·go_wp2
    go_ret;exact⟨true,rfl,fun h=>(by cases h),jL.out⟩
   ·go_wp2
    go_ret;refine⟨_,rfl,fun _ hf=>?_,jL.out⟩;have h1:=(HZ.out hf).1;have h2:=HM.out;omega
theorem TRd.len_{A:Nat→Prop}{w:World}{aS aL:Option Addr}{nS cS nL cL:Nat}{cw cf lf:Int}{f:Bool}{s:Sim}(h:TRd A w (.agg #[.slice aS nS cS,.slice aL nL cL,.int .i64 cw,.int .i64 cf,.bool f,.int .i64 lf]) s):nS=s.firm.length:=by
 obtain⟨vS,vL,qt,zg,vZ,h1,h2,_⟩:=h;obtain⟨a',c',h3,_⟩:=h2.shape;rw[h3] at h1;injection h1 with h1;have h5:=congrArg (fun z:Array Value=>z[0]?) h1;simp at h5;exact h5.2.1
theorem CVP.below'{A:Nat→Prop}{w w':World}{v:Value}{rs:List Chg}(h:CVP (RAd A w) w v rs)(hb:Below w.heap.size w w'):CVP (RAd A w') w' v rs:=CRd.below h hb
theorem six11{w:World}{g:Nat}{t:TypeId}{z0 z1 z2 z3 z4 z5 z6 z7 z8 z9 aX:Value}(h:Dv.Blk w g t #[z0,z1,z2,z3,z4,z5,z6,z7,z8,z9,aX])(v0 v1 v2 v3 v4 v5:Value):Dv.Blk (sixC w g v0 v1 v2 v3 v4 v5) g t #[v0,v1,v2,v3,v4,v5,z6,z7,z8,z9,aX]:=by
 have h1:=(((((h.set_ 0 v0).set_ 1 v1).set_ 2 v2).set_ 3 v3).set_ 4 v4).set_ 5 v5;simp only[List.setIfInBounds_toArray,List.set_cons_zero,List.set_cons_succ] at h1;exact h1
theorem commit8_nil{A:Nat→Prop}{w:World}{tv lv:Value}{x:Ss}{cs:List Chg}(h:TRs A w tv x)(hA:∀k,A k→k<w.heap.size)(hc:CRd A w lv cs)(hne:cs= []):
  Calls Tryz.prog 24 #[tv,lv] w (GivesT8 A w x 0):=by
 obtain⟨aS,nS,cS,aL,nL,cL,cw,cf,f,lf,aR,nR,cR,rfl,hT0,eW⟩:=h;obtain⟨W1,hW1⟩:∃W1,W1=((w.alloc (Obj.cells #[.slice aS nS cS,.slice aL nL cL,.int .i64 cw,.int .i64 cf,.bool f,.int .i64 lf,.slice aR nR cR,.int .i64 (x.ep:Int),.int .i64 (x.ar:Int),.int .i64 (x.us:Int),.int .i64 (x.fr:Int)] 42)).alloc (Obj.cells #[.slice none 0 0,.slice none 0 0,.int .i64 0,.int .i64 0,.bool false,.int .i64 0,.slice none 0 0,.int .i64 0,.int .i64 0,.int .i64 0,.int .i64 0] 42)):=⟨_,rfl⟩
 have aj:Below w.heap.size w W1:=by rw[hW1];exact below2 w _ _
 have hs1:W1.heap.size=w.heap.size+2:=by rw[hW1];simp
 have hb1:Dv.Blk W1 w.heap.size 42 #[.slice aS nS cS,.slice aL nL cL,.int .i64 cw,.int .i64 cf,.bool f,.int .i64 lf,.slice aR nR cR,.int .i64 (x.ep:Int),.int .i64 (x.ar:Int),.int .i64 (x.us:Int),.int .i64 (x.fr:Int)]:=by rw[hW1];exact heap_alloc2_old w _ _
 have hb2:Dv.Blk W1 (w.heap.size+1) 42 #[.slice none 0 0,.slice none 0 0,.int .i64 0,.int .i64 0,.bool false,.int .i64 0,.slice none 0 0,.int .i64 0,.int .i64 0,.int .i64 0,.int .i64 0]:=by rw[hW1];exact heap_alloc2_new w _ _
 have hT:TRd (Up A w.heap.size (w.heap.size+2)) W1 (.agg #[.slice aS nS cS,.slice aL nL cL,.int .i64 cw,.int .i64 cf,.bool f,.int .i64 lf]) x.d:=hT0.up_ aj (Nat.le_refl _);have du:RRd (Up A w.heap.size (w.heap.size+2)) W1 (.slice aR nR cR) x.rows:=eW.up_ aj (Nat.le_refl _);have cE:∀k,Up A w.heap.size (w.heap.size+2) k→k<W1.heap.size:=up_lt hA (by omega) aj.size;have ia:=qH (trs_mk hT du);have hcr:∀X,Below W1.heap.size W1 X→RC X lv cs:=fun X hX=>rc_below (rc_below hc.rc aj (Nat.le_refl _)) hX (by have:=aj.size;omega)
 obtain⟨aC,cC,hlv,zw,hcm⟩:=rc_shape hc.rc;subst hlv;have aD:=qH hb1;have bw:=qH hb2;have aw:=qH aj;have dU:=qH hW1;have qW:=qH hcr;have fN:=qH cE;have iy:=fun(X:World) (hX:Below W1.heap.size W1 X)=>fun k (hk:Up A w.heap.size (w.heap.size+2) k)=>Nat.lt_of_lt_of_le (cE k hk) hX.size
 have jK:=qH iy;have H0:=qH (trs_mk hT0 eW);clear hA hc aj hs1 hb1 hb2 cE hW1 hT0 eW hcr iy hT du;obtain⟨g2,hg2⟩:∃g2,g2=w.heap.size:=⟨_,rfl⟩
 obtain⟨g4,hg4⟩:∃g4,g4=w.heap.size+1:=⟨_,rfl⟩
 rw[←hg4] at bw;rw[←hg2] at aD ia fN jK;have ci:=qH hg4;have HG2:=qH hg2;clear hg4 hg2;go_enter Tryz.func24,Tryz.ntmps24;subst hne;go_wp2_with (refine bodyPost_ret (v:= .tuple #[.agg #[.slice aS nS cS,.slice aL nL cL,.int .i64 cw,.int .i64 cf,.bool f,.int .i64 lf,.slice aR nR cR,.int .i64 (x.ep:Int),.int .i64 (x.ar:Int),.int .i64 (x.us:Int),.int .i64 (x.fr:Int)],.int .i64 0]) (leaveC8 rfl rfl (show Dv.Blk _ (w.heap.size+1) 42 #[.slice aS nS cS,.slice aL nL cL,.int .i64 cw,.int .i64 cf,.bool f,.int .i64 lf,.slice aR nR cR,.int .i64 (x.ep:Int),.int .i64 (x.ar:Int),.int .i64 (x.us:Int),.int .i64 (x.fr:Int)] from heap_alloc2_new w _ _)) rfl ⟨_,rfl,H0.out.below (below2 w _ _),below2 w _ _⟩)
theorem commit8_long{A:Nat→Prop}{w:World}{tv lv:Value}{x:Ss}{cs:List Chg}(h:TRs A w tv x)(hA:∀k,A k→k<w.heap.size)(hc:CRd A w lv cs)(hne:cs≠ [])(hl:cs.any longC=true):
  Calls Tryz.prog 24 #[tv,lv] w (GivesT8 A w x 3):=by
 obtain⟨aS,nS,cS,aL,nL,cL,cw,cf,f,lf,aR,nR,cR,rfl,hT0,eW⟩:=h;obtain⟨W1,hW1⟩:∃W1,W1=((w.alloc (Obj.cells #[.slice aS nS cS,.slice aL nL cL,.int .i64 cw,.int .i64 cf,.bool f,.int .i64 lf,.slice aR nR cR,.int .i64 (x.ep:Int),.int .i64 (x.ar:Int),.int .i64 (x.us:Int),.int .i64 (x.fr:Int)] 42)).alloc (Obj.cells #[.slice none 0 0,.slice none 0 0,.int .i64 0,.int .i64 0,.bool false,.int .i64 0,.slice none 0 0,.int .i64 0,.int .i64 0,.int .i64 0,.int .i64 0] 42)):=⟨_,rfl⟩
 have aj:Below w.heap.size w W1:=by rw[hW1];exact below2 w _ _
 have hs1:W1.heap.size=w.heap.size+2:=by rw[hW1];simp
 have hb1:Dv.Blk W1 w.heap.size 42 #[.slice aS nS cS,.slice aL nL cL,.int .i64 cw,.int .i64 cf,.bool f,.int .i64 lf,.slice aR nR cR,.int .i64 (x.ep:Int),.int .i64 (x.ar:Int),.int .i64 (x.us:Int),.int .i64 (x.fr:Int)]:=by rw[hW1];exact heap_alloc2_old w _ _
 have hb2:Dv.Blk W1 (w.heap.size+1) 42 #[.slice none 0 0,.slice none 0 0,.int .i64 0,.int .i64 0,.bool false,.int .i64 0,.slice none 0 0,.int .i64 0,.int .i64 0,.int .i64 0,.int .i64 0]:=by rw[hW1];exact heap_alloc2_new w _ _
 have hT:TRd (Up A w.heap.size (w.heap.size+2)) W1 (.agg #[.slice aS nS cS,.slice aL nL cL,.int .i64 cw,.int .i64 cf,.bool f,.int .i64 lf]) x.d:=hT0.up_ aj (Nat.le_refl _);have du:RRd (Up A w.heap.size (w.heap.size+2)) W1 (.slice aR nR cR) x.rows:=eW.up_ aj (Nat.le_refl _);have cE:∀k,Up A w.heap.size (w.heap.size+2) k→k<W1.heap.size:=up_lt hA (by omega) aj.size;have ia:=qH (trs_mk hT du);have hcr:∀X,Below W1.heap.size W1 X→RC X lv cs:=fun X hX=>rc_below (rc_below hc.rc aj (Nat.le_refl _)) hX (by have:=aj.size;omega)
 obtain⟨aC,cC,hlv,zw,hcm⟩:=rc_shape hc.rc;subst hlv;have aD:=qH hb1;have bw:=qH hb2;have aw:=qH aj;have dU:=qH hW1;have qW:=qH hcr;have fN:=qH cE;have iy:=fun(X:World) (hX:Below W1.heap.size W1 X)=>fun k (hk:Up A w.heap.size (w.heap.size+2) k)=>Nat.lt_of_lt_of_le (cE k hk) hX.size
 have jK:=qH iy;clear hA hc aj hs1 hb1 hb2 cE hW1 hT0 eW hcr iy hT du;obtain⟨g2,hg2⟩:∃g2,g2=w.heap.size:=⟨_,rfl⟩
 obtain⟨g4,hg4⟩:∃g4,g4=w.heap.size+1:=⟨_,rfl⟩
 rw[←hg4] at bw;rw[←hg2] at aD ia fN jK;have ci:=qH hg4;have HG2:=qH hg2;clear hg4 hg2;go_enter Tryz.func24,Tryz.ntmps24;have hcl:(0:Int)<(cs.length:Int):=by have:=List.length_pos_iff.2 hne;omega
 have gZ:((cs.length:Int)==0)=false:=by rw[beq_eq_false_iff_ne];omega
 have HL:=qH (long8_any _ cs W1 (qW.out _ (Below.refl _ _)));rw[hl] at HL;go_wp2_with fail
 rw[←dU.out,←ci.out,←HG2.out];refine HL.out.mono ?_;rintro e w1⟨rfl,hb1⟩;have an:=qH hb1;clear hb1;have af:=aD.out.below (an.out) aD.out.lt;have zl:=af.lt;obtain⟨z0,z1,z2,z3,z4,z5,z6,z7,z8,z9,aX⟩:=cl11 af;clear af;have cX:=qH (bw.out.below (an.out) bw.out.lt);go_wp2_with (first|(refine wpList_store_row rfl 42 (.tmp 4) (.tmp 25) rfl g4 #[.slice aS nS cS,.slice aL nL cL,.int .i64 cw,.int .i64 cf,.bool f,.int .i64 lf,.slice aR nR cR,.int .i64 (x.ep:Int),.int .i64 (x.ar:Int),.int .i64 (x.us:Int),.int .i64 (x.fr:Int)] rfl rfl 42 #[.slice none 0 0,.slice none 0 0,.int .i64 0,.int .i64 0,.bool false,.int .i64 0,.slice none 0 0,.int .i64 0,.int .i64 0,.int .i64 0,.int .i64 0] cX.out (elv42 _ _ _ _ _ _ _ _ _ _ _) rfl (all11 _ _ _ _ _ _ _ _ _ _ _ _ _ _ _ _ _) ?_)|(refine bodyPost_ret (v:= .tuple #[.agg #[.slice aS nS cS,.slice aL nL cL,.int .i64 cw,.int .i64 cf,.bool f,.int .i64 lf,.slice aR nR cR,.int .i64 (x.ep:Int),.int .i64 (x.ar:Int),.int .i64 (x.us:Int),.int .i64 (x.fr:Int)],.int .i64 3]) (leaveC8 rfl rfl (row_blk cX.out _)) rfl ⟨_,rfl,((ia.out.below (an.out)).st (row_fr w1 g4 _) (fun q hq=>by have:=ci.out;have:=HG2.out;omega)).down_,aw.out.trans (((Fr.of_below (D:=fun q=>q=g4) (an.out)).trans (row_fr w1 g4 _) (fun q hq=> .inl hq)).below (fun q hq=>by have:=ci.out;omega) aw.out.size)⟩))
theorem commit8_full{A:Nat→Prop}{w:World}{tv lv:Value}{x:Ss}{cs:List Chg}(h:TRs A w tv x)(hA:∀k,A k→k<w.heap.size)(hc:CRd A w lv cs)(hne:cs≠ [])(hl:cs.any longC=false)(hG:GoodX x)(hcb:(chgsB cs).length≤100000000)(hcs:cs.length≤100000)(hfull:fitB x.n (applyL x.rows cs)=false∨(partsL (x.ep:Int) (x.fr:Int) cs).2=false∨jN x.n<(partsL (x.ep:Int) (x.fr:Int) cs).1.length):
  Calls Tryz.prog 24 #[tv,lv] w (GivesT8 A w x 21):=by
 obtain⟨aS,nS,cS,aL,nL,cL,cw,cf,f,lf,aR,nR,cR,rfl,hT0,eW⟩:=h;obtain⟨W1,hW1⟩:∃W1,W1=((w.alloc (Obj.cells #[.slice aS nS cS,.slice aL nL cL,.int .i64 cw,.int .i64 cf,.bool f,.int .i64 lf,.slice aR nR cR,.int .i64 (x.ep:Int),.int .i64 (x.ar:Int),.int .i64 (x.us:Int),.int .i64 (x.fr:Int)] 42)).alloc (Obj.cells #[.slice none 0 0,.slice none 0 0,.int .i64 0,.int .i64 0,.bool false,.int .i64 0,.slice none 0 0,.int .i64 0,.int .i64 0,.int .i64 0,.int .i64 0] 42)):=⟨_,rfl⟩
 have aj:Below w.heap.size w W1:=by rw[hW1];exact below2 w _ _
 have hs1:W1.heap.size=w.heap.size+2:=by rw[hW1];simp
 have hb1:Dv.Blk W1 w.heap.size 42 #[.slice aS nS cS,.slice aL nL cL,.int .i64 cw,.int .i64 cf,.bool f,.int .i64 lf,.slice aR nR cR,.int .i64 (x.ep:Int),.int .i64 (x.ar:Int),.int .i64 (x.us:Int),.int .i64 (x.fr:Int)]:=by rw[hW1];exact heap_alloc2_old w _ _
 have hb2:Dv.Blk W1 (w.heap.size+1) 42 #[.slice none 0 0,.slice none 0 0,.int .i64 0,.int .i64 0,.bool false,.int .i64 0,.slice none 0 0,.int .i64 0,.int .i64 0,.int .i64 0,.int .i64 0]:=by rw[hW1];exact heap_alloc2_new w _ _
 have hT:TRd (Up A w.heap.size (w.heap.size+2)) W1 (.agg #[.slice aS nS cS,.slice aL nL cL,.int .i64 cw,.int .i64 cf,.bool f,.int .i64 lf]) x.d:=hT0.up_ aj (Nat.le_refl _);have du:RRd (Up A w.heap.size (w.heap.size+2)) W1 (.slice aR nR cR) x.rows:=eW.up_ aj (Nat.le_refl _);have cE:∀k,Up A w.heap.size (w.heap.size+2) k→k<W1.heap.size:=up_lt hA (by omega) aj.size;have ia:=qH (trs_mk hT du);have hcr:∀X,Below W1.heap.size W1 X→RC X lv cs:=fun X hX=>rc_below (rc_below hc.rc aj (Nat.le_refl _)) hX (by have:=aj.size;omega)
 obtain⟨aC,cC,hlv,zw,hcm⟩:=rc_shape hc.rc;subst hlv;have aD:=qH hb1;have bw:=qH hb2;have aw:=qH aj;have dU:=qH hW1;have qW:=qH hcr;have fN:=qH cE;have iy:=fun(X:World) (hX:Below W1.heap.size W1 X)=>fun k (hk:Up A w.heap.size (w.heap.size+2) k)=>Nat.lt_of_lt_of_le (cE k hk) hX.size
 have jK:=qH iy;have jx:=hT.len_;have hn:=hG.n;have di:x.n≤4096:=hG.ok.n;have kQ:x.d.firm.length≤4096:=hG.ok.n;have hn':64≤x.d.firm.length:=hG.n;have fg:=hG.ep;have har:=hG.ar;have ah:=hG.us;have ay:=hG.fr;have eC:=(rows_few_ hG).2;have se:x.us≤1024:=by have:=jN_le x.n;omega
 obtain⟨J,hJ⟩:∃J,J=jN nS:=⟨_,rfl⟩
 obtain⟨M,hM⟩:∃M,M=aN nS:=⟨_,rfl⟩
 have Cc:J≤1024:=by rw[hJ,jx];have:=jN_le x.d.firm.length;omega
 have al:=fun X=>layout8_any (nS:Int) (by omega) (by omega) X
 rw[layJ_nat,layA_nat,←hM,←hJ] at al;have bh:=qH al;have HL:=qH (long8_any _ cs W1 (hcr _ (Below.refl _ _)));rw[hl] at HL;obtain⟨L2,hL2⟩:∃L2,L2=applyL x.rows cs:=⟨_,rfl⟩
 have hap:=fun(X:World) (hX:Below W1.heap.size W1 X)=>refApplyD_any _ _ _ _ X (iy X hX) (du.below hX) (show CRd (Up A w.heap.size (w.heap.size+2)) X (.slice aC cs.length cC) cs from(CVP.below (P':=RAd (Up A w.heap.size (w.heap.size+2)) W1) hc aj (fun _ _ h=>h.fr (D:=fun _=>False) (Fr.of_below aj) (fun _ h=>h.elim) (up_new (Nat.le_refl _)))).below' hX) (by omega)
 rw[←hL2] at hap;have eA:=qH hap;have nQ:=qH hL2;have HJ:=qH hJ;have sq:=qH hM;have lz:=qH jx;have su:=qH hG;have rI:=qH hT;have hpt:=fun(X:World) (hX:Below W1.heap.size W1 X)=>refParts_any (x.ep:Int) (x.fr:Int) _ cs X (hcr X hX) hcb (by omega)
 obtain⟨⟨P1,P2⟩,bF⟩:∃PL,PL=partsL (x.ep:Int) (x.fr:Int) cs:=⟨_,rfl⟩
 rw[←bF] at hpt;have j6:=qH hpt;have cW:=qH bF;have Cw:P1.length≤200:=by have:=parts_len (x.ep:Int) (x.fr:Int) cs;rw[←bF] at this;exact this
 have hcl:(0:Int)<(cs.length:Int):=by have:=List.length_pos_iff.2 hne;omega
 have gZ:((cs.length:Int)==0)=false:=by rw[beq_eq_false_iff_ne];omega
 clear hpt bF hap hL2 hJ hM al hG jx hn di kQ hn' ah eC;clear hA hc aj hs1 hb1 hb2 cE hW1 hT0 eW hcr iy hT du;obtain⟨g2,hg2⟩:∃g2,g2=w.heap.size:=⟨_,rfl⟩
 obtain⟨g4,hg4⟩:∃g4,g4=w.heap.size+1:=⟨_,rfl⟩
 rw[←hg4] at bw;rw[←hg2] at aD ia fN jK eA rI;have ci:=qH hg4;have HG2:=qH hg2;clear hg4 hg2;go_enter Tryz.func24,Tryz.ntmps24;have dQ:fitB nS L2=false∨P2=false∨J<P1.length:=by
  have e:=cW.out;rw[nQ.out,lz.out,HJ.out,lz.out];rw[←e] at hfull;exact hfull
 clear hfull;go_wp2_with fail
 rw[←dU.out,←ci.out,←HG2.out];refine HL.out.mono ?_;rintro e w1⟨rfl,hb1⟩;have an:=qH hb1;have af:=aD.out.below hb1 aD.out.lt;have zl:=af.lt;obtain⟨z0,z1,z2,z3,z4,z5,z6,z7,z8,z9,aX⟩:=cl11 af;clear af hb1;go_wp2_with fail
 refine(eA.out _ an.out).mono ?_;rintro e w2⟨v2,rfl,hr2,hb2⟩;obtain⟨A2,c2,rfl,hsh⟩:=RVP.shape hr2;have cM:=qH hr2;have ae:=qH (an.out.trans (hb2.mono an.out.size));have cZ:=qH (refBuild_any _ _ w2 hr2.rr);have af:=aD.out.below ae.out aD.out.lt;have zl:=af.lt;obtain⟨z0,z1,z2,z3,z4,z5,z6,z7,z8,z9,aX⟩:=cl11 af;clear af hb2 hr2 hsh;go_wp2_with (go_at_call 30;refine(bh.out _).mono ?_;rintro e wq ⟨rfl,rfl⟩)
 refine cZ.out.mono ?_;rintro e w3⟨pv,rfl,hop,hb3⟩;have ak:=qH (ae.out.trans (hb3.mono ae.out.size));have bO:=qH (cM.out.below hb3);have af:=aD.out.below ak.out aD.out.lt;have zl:=af.lt;obtain⟨z0,z1,z2,z3,z4,z5,z6,z7,z8,z9,aX⟩:=cl11 af;clear af hb3;obtain⟨Ap,cp,rfl,bN,bT⟩:=hop.shape;clear bN bT hop
 cases hbl:buildL L2 with
 |none=>
  simp only[Option.isSome,Option.getD_none];go_wp2_with fail
  refine(j6.out _ ak.out).mono ?_;rintro e w4⟨sv,rfl,hop,hb4⟩;obtain⟨As,yC,rfl,bN,bT⟩:=hop.shape;have ai:=qH (ak.out.trans (hb4.mono ak.out.size));have iS:=qH (bO.out.below hb4);clear bN bT hop hb4;have af:=aD.out.below (ai.out) aD.out.lt;have zl:=af.lt;obtain⟨z0,z1,z2,z3,z4,z5,z6,z7,z8,z9,aX⟩:=cl11 af;clear af;have cX:=qH (bw.out.below (ai.out) bw.out.lt);go_wp2_with (first|(refine wpList_store_row rfl 42 (.tmp 4) (.tmp 70) rfl g4 #[.slice aS nS cS,.slice aL nL cL,.int .i64 cw,.int .i64 cf,.bool f,.int .i64 lf,.slice aR nR cR,.int .i64 (x.ep:Int),.int .i64 (x.ar:Int),.int .i64 (x.us:Int),.int .i64 (x.fr:Int)] rfl rfl 42 #[.slice none 0 0,.slice none 0 0,.int .i64 0,.int .i64 0,.bool false,.int .i64 0,.slice none 0 0,.int .i64 0,.int .i64 0,.int .i64 0,.int .i64 0] cX.out (elv42 _ _ _ _ _ _ _ _ _ _ _) rfl (all11 _ _ _ _ _ _ _ _ _ _ _ _ _ _ _ _ _) ?_)|(refine bodyPost_ret (v:= .tuple #[.agg #[.slice aS nS cS,.slice aL nL cL,.int .i64 cw,.int .i64 cf,.bool f,.int .i64 lf,.slice aR nR cR,.int .i64 (x.ep:Int),.int .i64 (x.ar:Int),.int .i64 (x.us:Int),.int .i64 (x.fr:Int)],.int .i64 21]) (leaveC8 rfl rfl (row_blk cX.out _)) rfl ⟨_,rfl,((ia.out.below (ai.out)).st (row_fr w4 g4 _) (fun q hq=>by have:=ci.out;have:=HG2.out;omega)).down_,aw.out.trans (((Fr.of_below (D:=fun q=>q=g4) (ai.out)).trans (row_fr w4 g4 _) (fun q hq=> .inl hq)).below (fun q hq=>by have:=ci.out;omega) aw.out.size)⟩))
 |some ps=>
  have nY:fitB nS L2=decide (ps.length≤M):=by unfold fitB;rw[hbl,sq.out]
  simp only[Option.isSome,Option.getD_some];rw[nY] at dQ;clear nY hbl;go_wp2_with fail
  refine(j6.out _ ak.out).mono ?_;rintro e w4⟨sv,rfl,hop,hb4⟩;obtain⟨As,yC,rfl,bN,bT⟩:=hop.shape;have ai:=qH (ak.out.trans (hb4.mono ak.out.size));have iS:=qH (bO.out.below hb4);clear bN bT hop hb4;by_cases hf:ps.length≤M
  rotate_left
  ·have hgt:(M:Int)<(ps.length:Int):=by omega
   clear hf dQ;have af:=aD.out.below (ai.out) aD.out.lt;have zl:=af.lt;obtain⟨z0,z1,z2,z3,z4,z5,z6,z7,z8,z9,aX⟩:=cl11 af;clear af;have cX:=qH (bw.out.below (ai.out) bw.out.lt);go_wp2_with (first|(refine wpList_store_row rfl 42 (.tmp 4) (.tmp 70) rfl g4 #[.slice aS nS cS,.slice aL nL cL,.int .i64 cw,.int .i64 cf,.bool f,.int .i64 lf,.slice aR nR cR,.int .i64 (x.ep:Int),.int .i64 (x.ar:Int),.int .i64 (x.us:Int),.int .i64 (x.fr:Int)] rfl rfl 42 #[.slice none 0 0,.slice none 0 0,.int .i64 0,.int .i64 0,.bool false,.int .i64 0,.slice none 0 0,.int .i64 0,.int .i64 0,.int .i64 0,.int .i64 0] cX.out (elv42 _ _ _ _ _ _ _ _ _ _ _) rfl (all11 _ _ _ _ _ _ _ _ _ _ _ _ _ _ _ _ _) ?_)|(refine bodyPost_ret (v:= .tuple #[.agg #[.slice aS nS cS,.slice aL nL cL,.int .i64 cw,.int .i64 cf,.bool f,.int .i64 lf,.slice aR nR cR,.int .i64 (x.ep:Int),.int .i64 (x.ar:Int),.int .i64 (x.us:Int),.int .i64 (x.fr:Int)],.int .i64 21]) (leaveC8 rfl rfl (row_blk cX.out _)) rfl ⟨_,rfl,((ia.out.below (ai.out)).st (row_fr w4 g4 _) (fun q hq=>by have:=ci.out;have:=HG2.out;omega)).down_,aw.out.trans (((Fr.of_below (D:=fun q=>q=g4) (ai.out)).trans (row_fr w4 g4 _) (fun q hq=> .inl hq)).below (fun q hq=>by have:=ci.out;omega) aw.out.size)⟩))
  have hle:(ps.length:Int)≤(M:Int):=by omega
  rw[decide_eq_true hf] at dQ
  cases P2 with
  |false=>
   clear hf dQ;have af:=aD.out.below (ai.out) aD.out.lt;have zl:=af.lt;obtain⟨z0,z1,z2,z3,z4,z5,z6,z7,z8,z9,aX⟩:=cl11 af;clear af;have cX:=qH (bw.out.below (ai.out) bw.out.lt);go_wp2_with (first|(refine wpList_store_row rfl 42 (.tmp 4) (.tmp 70) rfl g4 #[.slice aS nS cS,.slice aL nL cL,.int .i64 cw,.int .i64 cf,.bool f,.int .i64 lf,.slice aR nR cR,.int .i64 (x.ep:Int),.int .i64 (x.ar:Int),.int .i64 (x.us:Int),.int .i64 (x.fr:Int)] rfl rfl 42 #[.slice none 0 0,.slice none 0 0,.int .i64 0,.int .i64 0,.bool false,.int .i64 0,.slice none 0 0,.int .i64 0,.int .i64 0,.int .i64 0,.int .i64 0] cX.out (elv42 _ _ _ _ _ _ _ _ _ _ _) rfl (all11 _ _ _ _ _ _ _ _ _ _ _ _ _ _ _ _ _) ?_)|(refine bodyPost_ret (v:= .tuple #[.agg #[.slice aS nS cS,.slice aL nL cL,.int .i64 cw,.int .i64 cf,.bool f,.int .i64 lf,.slice aR nR cR,.int .i64 (x.ep:Int),.int .i64 (x.ar:Int),.int .i64 (x.us:Int),.int .i64 (x.fr:Int)],.int .i64 21]) (leaveC8 rfl rfl (row_blk cX.out _)) rfl ⟨_,rfl,((ia.out.below (ai.out)).st (row_fr w4 g4 _) (fun q hq=>by have:=ci.out;have:=HG2.out;omega)).down_,aw.out.trans (((Fr.of_below (D:=fun q=>q=g4) (ai.out)).trans (row_fr w4 g4 _) (fun q hq=> .inl hq)).below (fun q hq=>by have:=ci.out;omega) aw.out.size)⟩))
  |true=>
   have KE:(J:Int)<(P1.length:Int):=by
    rcases dQ with h|h|h
    ·cases h
    ·cases h
    ·omega
   clear hf dQ;have af:=aD.out.below (ai.out) aD.out.lt;have zl:=af.lt;obtain⟨z0,z1,z2,z3,z4,z5,z6,z7,z8,z9,aX⟩:=cl11 af;clear af;have cX:=qH (bw.out.below (ai.out) bw.out.lt);go_wp2_with (first|(refine wpList_store_row rfl 42 (.tmp 4) (.tmp 70) rfl g4 #[.slice aS nS cS,.slice aL nL cL,.int .i64 cw,.int .i64 cf,.bool f,.int .i64 lf,.slice aR nR cR,.int .i64 (x.ep:Int),.int .i64 (x.ar:Int),.int .i64 (x.us:Int),.int .i64 (x.fr:Int)] rfl rfl 42 #[.slice none 0 0,.slice none 0 0,.int .i64 0,.int .i64 0,.bool false,.int .i64 0,.slice none 0 0,.int .i64 0,.int .i64 0,.int .i64 0,.int .i64 0] cX.out (elv42 _ _ _ _ _ _ _ _ _ _ _) rfl (all11 _ _ _ _ _ _ _ _ _ _ _ _ _ _ _ _ _) ?_)|(refine bodyPost_ret (v:= .tuple #[.agg #[.slice aS nS cS,.slice aL nL cL,.int .i64 cw,.int .i64 cf,.bool f,.int .i64 lf,.slice aR nR cR,.int .i64 (x.ep:Int),.int .i64 (x.ar:Int),.int .i64 (x.us:Int),.int .i64 (x.fr:Int)],.int .i64 21]) (leaveC8 rfl rfl (row_blk cX.out _)) rfl ⟨_,rfl,((ia.out.below (ai.out)).st (row_fr w4 g4 _) (fun q hq=>by have:=ci.out;have:=HG2.out;omega)).down_,aw.out.trans (((Fr.of_below (D:=fun q=>q=g4) (ai.out)).trans (row_fr w4 g4 _) (fun q hq=> .inl hq)).below (fun q hq=>by have:=ci.out;omega) aw.out.size)⟩))
structure Keep (B n:Nat) (x:Ss):Prop where
 inv:InvS x
 n:x.n=n
 ep:x.ep≤B
 rc:∀K,∃r,Rcv B (krash x.d K) r
theorem Keep.start{n:Nat}{x:Ss}(h:InvS x)(hf:x.d.fuse=none)(hn:x.n=n):Keep x.ep n x:=by
 have hg:=goes_none hf;refine⟨h,hn,Nat.le_refl _,fun K=>⟨x.rows,?_⟩⟩;show Rcv _ (kept x.d.firm x.d.loose K x.d.loose.length) _;rw[(h.live hg).1];exact h.rcv hg
theorem Keep.commit{B n:Nat}{x:Ss}{cs:List Chg}(h:Keep B n x)(hr:cs.any longC=false→readChgs (chgsL cs)=(cs,0)):Keep (B+1) n (commitR x cs).1:=by
 obtain⟨s1,s2,s3,s4,s5,_,_⟩:=commit_step (cs:=cs) h.inv hr;have he:=h.ep;refine⟨s1,s2.trans h.n,by omega,fun K=>?_⟩;by_cases hg:x.d.goes=true
 ·rcases s4 hg K with h1|h1
  ·exact⟨_,h1.more (by omega)⟩
  ·exact⟨_,h1.more (by omega)⟩
 ·rw[s5 (by simpa using hg)]
  obtain⟨r,h1⟩:=h.rc K;exact⟨r,h1.more (by omega)⟩
theorem Keep.ck{B n:Nat}{x:Ss}(h:Keep B n x)(hB:B<1073741824):Keep (B+1) n (ckS x):=by
 have he:=h.ep;obtain⟨s1,s2,s3⟩:=ck_step h.inv.good (fun hg=>h.inv.fnd hg) (show x.ep<1073741824 by omega);refine⟨s1,(ck_n x).trans h.n,by show x.ep+1≤_;omega,fun K=>?_⟩;by_cases hg:x.d.goes=true
 ·exact⟨_,(s2 hg K).more (by omega)⟩
 ·rw[s3 (by simpa using hg)]
  obtain⟨r,h1⟩:=h.rc K;exact⟨r,h1.more (by omega)⟩
theorem setFuse_goes{s:Sim}{q:Int}(h:(s.setFuse q).goes=true):s.goes=true:=by
 rcases Bool.eq_false_or_eq_true s.goes with h1|h1
 ·exact h1
 ·unfold Sim.setFuse at h
  rw[h1] at h;simp at h;rw[h1] at h;cases h
theorem setFuse_same(s:Sim)(q:Int):(s.setFuse q).firm=s.firm∧(s.setFuse q).loose=s.loose:=by
 unfold Sim.setFuse;split
 ·exact⟨rfl,rfl⟩
 ·exact⟨rfl,rfl⟩
theorem Keep.fuse{B n:Nat}{x:Ss}(h:Keep B n x)(q:Int)(hq:q≤1000):Keep (B+1) n {x with d:=x.d.setFuse q}:=by
 obtain⟨f1,f2⟩:=setFuse_same x.d q;have hG:=h.inv.good;have he:=h.ep;have hn:({x with d:=x.d.setFuse q}:Ss).n=x.n:=by show(x.d.setFuse q).firm.length=_;rw[f1]
 refine⟨⟨⟨?_,hG.ok.setFuse q hq,?_,hG.ep,hG.ar,?_,hG.fr,?_,fun hg=>?_⟩,fun hg=>?_⟩,hn.trans h.n,by show x.ep≤_;omega,fun K=>?_⟩
 ·rw[hn];exact hG.n
 ·rw[hn];exact hG.fit
 ·rw[hn];exact hG.us
 ·show(x.d.setFuse q).loose.length≤_
  rw[f2];exact hG.lo
 ·show(x.d.setFuse q).loose= []
  rw[f2];exact hG.calm (setFuse_goes hg)
 ·obtain⟨h1,l0,ps,fs,h2,h3,h4,h5,h6⟩:=h.inv.live (setFuse_goes hg)
  refine⟨?_,l0,ps,fs,?_,?_,h4,h5,h6⟩
  ·show(x.d.setFuse q).loose= []
   rw[f2];exact h1
  ·show HdA (x.d.setFuse q).firm _ _ _ _
   rw[f1];exact h2
  ·show JrA (x.d.setFuse q).firm _ _
   rw[f1];exact h3
 ·obtain⟨r,h1⟩:=h.rc K
  refine⟨r,?_⟩;show Rcv _ (kept (x.d.setFuse q).firm (x.d.setFuse q).loose K (x.d.setFuse q).loose.length) _;rw[f1,f2];exact h1.more (by omega)
theorem Keep.crash{B n:Nat}{x:Ss}(h:Keep B n x)(K:List Bool)(hB:B<1073741824):
  ∃y,openR (x.d.crash K)=(0,y)∧Keep (B+1) n y∧OK (x.d.crash K)∧(x.d.crash K).firm.length=n∧(x.d.crash K).loose= []:=by
 obtain⟨r,h1⟩:=h.rc K;have hok:=h.inv.good.ok.crash K;have hl:(x.d.crash K).firm.length=n:=by
  rw[←h.n];exact kept_length _ _ _ _
 obtain⟨y,a1,a2,a3,a4,a5,a6,a7,a8,a9⟩:=open_step (s:=x.d.crash K) (B:=B) (r:=r) hok rfl h1 hB;exact⟨y,a1,⟨a2,a6.trans hl,a4,fun K'=>⟨r,a8 K'⟩⟩,hok,hl,rfl⟩
end Go.Proofs.YtmbkaedhllfoeaaGreat
