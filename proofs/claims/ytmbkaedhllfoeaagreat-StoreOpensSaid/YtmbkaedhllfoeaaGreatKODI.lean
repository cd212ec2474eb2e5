/-
  Texts of the proof, put together.
-/
import Derived.Test.YtmbkaedhllfoeaaGreatKOCH
import Derived.Test.YtmbkaedhllfoeaaGreatKODF
import Derived.Test.YtmbkaedhllfoeaaGreatKODH
import Derived.Test.YtmbkaedhllfoeaaGreatKOWr
set_option maxRecDepth 100000
set_option maxHeartbeats 4000000
set_option linter.unusedVariables false
namespace Go.Proofs.YtmbkaedhllfoeaaGreat
open Go.RowKit Go.Rst Go.Dv Go.Crc Go.Str
def laidL(s:Sim)(ar pg:Nat):List (List UInt8):=chunkL256 (secsL s (firstN s.firm.length ar) (pg*4)).flatten
theorem laid_any{D:Nat→Prop}{w:World}{v:Value}{s:Sim}(ep ar pg:Nat)(h:Dev D w v s)(hn:64≤s.firm.length)(har:ar≤1)(hp0:0<pg)(ia:pg≤aN s.firm.length):
  Calls Tryz.prog 47 #[dv v,.agg #[.int .i64 (ep:Int),.int .i64 (ar:Int),.int .i64 (pg:Int)]] w fun e w'=>∃pv,e= .returned pv∧PN w' w.heap.size pv (laidL s ar pg)∧Below w.heap.size w w':=by
 have HN:=h.ok.n;have bm:=qH h.ok;have H:=qH h;obtain⟨g,rfl⟩:=dev_ptr h;have mi:=firstN_le hn har ia;have ha:=aN_le s.firm.length;obtain⟨F,hF⟩:∃F,F=firstN s.firm.length ar:=⟨_,rfl⟩
 rw[←hF] at mi;have HF:=qH hF;have Jc:pg≤600:=by omega
 have qp:((pg*4:Nat):Int)=(pg:Int)*4:=by omega
 have hc1:=fun X (hX:Below w.heap.size w X)=>first_any (w:=X) ar har (H.out.below hX)
 rw[←hF] at hc1;have qG:=qH hc1;have hc2:=fun X (hX:Below w.heap.size w X)=>rd_any (w:=X) F (pg*4) (H.out.below hX) (by omega)
 rw[qp] at hc2;have CR:=qH hc2;have hw4:IntKind.i64.wrap ((pg:Int)*4)=(pg:Int)*4:=by rw[IntKind.wrap_i64];omega
 obtain⟨B,hB⟩:∃B,B=Obj.cells #[.int .i64 (ep:Int),.int .i64 (ar:Int),.int .i64 (pg:Int)] 91:=⟨_,rfl⟩
 have kb:Dv.Blk (w.alloc B) w.heap.size 91 #[.int .i64 (ep:Int),.int .i64 (ar:Int),.int .i64 (pg:Int)]:=by rw[hB];exact heap_alloc_new w _
 have KB:=qH kb;have bX:=qH hB;have hb1:Below w.heap.size w (w.alloc B):=(Below.refl _ _).alloc (Nat.le_refl _) _;have al:=qH hb1;clear h ha hF qp hc1 hc2 kb hB hb1;go_enter Tryz.func47,Tryz.ntmps47;go_wp2_with fail
 rw[←bX.out];refine wp_region_held_drew (S:=fun X=>Dv.Blk X w.heap.size 91 #[.int .i64 (ep:Int),.int .i64 (ar:Int),.int .i64 (pg:Int)]∧Below w.heap.size w X) (by kernel_rfl) ⟨KB.out,al.out.drew⟩ (fun hHeld=>?_);refine tkC 0 ?_;refine tkC 1 ?_;refine tkC 2 ?_;refine tkA 3 (v:=?_) ?_ ?_;rotate_left
 ·intro X hSw;have z0:=hSw.1.cell 0;have z1:=hSw.1.cell 1;have z2:=hSw.1.cell 2;simp at z0 z1 z2;go_simp;try (with_reducible rfl)
 try simp only[Act.put,zA,zB,zC]
 refine tkC 5 ?_;refine tkA 6 (v:=?_) ?_ ?_;rotate_left
 ·intro X hSw;have z0:=hSw.1.cell 0;have z1:=hSw.1.cell 1;have z2:=hSw.1.cell 2;simp at z0 z1 z2;go_simp;try (with_reducible rfl)
 try simp only[Act.put,zA,zB,zC]
 refine tkC 7 ?_;refine rdA (rs:= [4]) ?_;refine arC (fun K hK=>?_);go_simp;refine(qG.out _ hHeld.2).mono ?_;rintro e w3⟨rfl,rfl⟩;try (go_wp2_with fail)
 refine hK.out _ _ ?_ (fun _=>?_)
 ·exact hHeld
 clear hK K;try simp only[Act.put,zA,zB,zC]
 refine rdA (rs:= [8]) ?_;refine arC (fun K hK=>?_);go_simp;refine(CR.out _ hHeld.2).mono ?_;rintro e w4⟨pv,rfl,hop,hb4⟩;obtain⟨Ap,cp,hpv,kt,jm⟩:=hop.shape;rw[secsL_len] at hpv jm;subst hpv;have bU:=qH hop.pn;have ah:=qH (hHeld.2.trans (hb4.mono hHeld.2.size));have BO:=qH (hHeld.1.below hb4 hHeld.1.lt);clear hop hb4;try (go_wp2_with fail)
 have ac:=(show Dv.Blk w4 w.heap.size 91 #[.int .i64 (ep:Int),.int .i64 (ar:Int),.int .i64 (pg:Int)]∧Below w.heap.size w w4 from⟨BO.out,ah.out⟩)
 refine hK.out _ _ ?_ (fun _=>?_)
 ·exact ac
 clear hK K hHeld;have hHeld:=ac;clear ac;try simp only[Act.put,zA,zB,zC]
 refine tkC 9 ?_;refine wpAnyH_done (by kernel_rfl) ?_ _;clear hHeld KB BO;have hsl:=bm.out;obtain⟨SL,yO⟩:∃SL,SL=secsL s F (pg*4):=⟨_,rfl⟩
 have rD:∀x∈SL,x.length=64:=by
  intro x hx;rw[yO] at hx;unfold secsL at hx;obtain⟨i,hi,rfl⟩:=List.mem_map.1 hx;exact hsl.read (by have:=List.mem_range.1 hi;omega)
 have qu:SL.length=pg*4:=by rw[yO];exact secsL_len _ _ _
 obtain⟨bl,hbl⟩:∃bl,bl=SL.flatten:=⟨_,rfl⟩
 have hfl:bl.length=pg*4*64:=by rw[hbl,flat_length rD,qu]
 rw[←yO] at bU;obtain⟨qs,yS,zm⟩:=bU.out.ps (by intro e;rw[e] at qu;simp at qu;omega);have cD:=cat_flatten yS;rw[←hbl] at cD;have hcc:=concat_any _ qs w4 zm (by rw[cD,hfl];omega);rw[cD] at hcc;have sw:=qH hcc;have iX:=qH hfl;have fI:=qH hbl;have zd:=qH yO;clear hcc yS zm cD rD qu hfl hbl yO hsl;go_wp2_with fail
 go_at_call 78;refine sw.out.mono ?_;rintro e w5⟨v2,rfl,aP,hb2⟩;obtain⟨b2,c2,rfl⟩:=ownsRow_succ (k:=bl.length-1) (by rw[Nat.sub_add_cancel (by have:=iX.out;omega)];exact aP);rw[Nat.sub_add_cancel (by have:=iX.out;omega)] at aP⊢;have fR:=qH aP;have ae:=qH hb2;clear aP hb2;go_wp2_with fail
 go_at_call 77;refine(chunk256_any _ w5 rfl).mono ?_;rintro e w6⟨rfl,zx⟩;have sS:=dc256_new (RB.own fR.out);rw[←zx] at sS;have au:Below w5.heap.size w5 w6:=by rw[zx];exact((Below.refl _ _).alloc (Nat.le_refl _) _).alloc (by simp) _
 have Dj:=qH sS;have aG:=qH au;clear zx sS au;go_wp2_with fail
 go_at_call 76;refine(coll256_any b2 0 c2 bl.length w5.heap.size bl w6 rfl Dj.out (by have:=iX.out;omega)).mono ?_;rintro e w7⟨sv,us,rfl,ag,lm,hxs,bR⟩;have x8:=ae.out.trans (((aG.out).trans (bR.mono aG.out.size)).mono ae.out.size);have Bu:=ah.out.trans (x8.mono ah.out.size);have gX:w4.heap.size≤b2∧b2<w5.heap.size:=by
  rcases fR.out.2 with ⟨h0,_⟩|⟨g',cap',cur',he',hbb',hg',_⟩
  ·cases h0
  ·injection he' with he' _ _;injection he' with he';injection he' with he' _;subst he';exact⟨hbb',(Array.getElem?_eq_some_iff.1 hg').1⟩
 have jq:=pieces_pn (base:=w4.heap.size) ag (own_base lm (Nat.le_trans ae.out.size aG.out.size)) hxs ((RB.own fR.out).below ((aG.out).trans (bR.mono aG.out.size))) gX.1 (Nat.lt_of_lt_of_le gX.2 (Nat.le_trans aG.out.size bR.size));have uw:=jq.base_ ah.out.size;rw[fI.out,zd.out,HF.out] at uw;have pS:=qH (show PN w7 w.heap.size sv (laidL s ar pg) from uw);have bJ:=qH Bu;obtain⟨As,cs,rfl,_⟩:=own_shape lm;clear ag lm hxs bR x8 Bu gX jq uw;go_wp2;go_ret;exact⟨_,rfl,pS.out,bJ.out⟩
def rdH(l:List UInt8)(most:Nat):Nat×Nat×Nat:=if Str.hOk l most=true then (Str.hEp l,Str.hAr l,Str.hPg l) else (0,0,0)
def GivesH(w:World)(l:List UInt8)(most:Nat)(e:Ending)(w':World):Prop:=
 e= .returned (.tuple #[.int .i64 ((rdH l most).1:Int),.int .i64 ((rdH l most).2.1:Int),.int .i64 ((rdH l most).2.2:Int),.bool (Str.hOk l most)])∧Below w.heap.size w w'
theorem GivesH.no{w w':World}{l:List UInt8}{most:Nat}(h:Str.hOk l most=false)(hb:Below w.heap.size w w'):GivesH w l most (.returned (.tuple #[.int .i64 0,.int .i64 0,.int .i64 0,.bool false])) w':=by
 unfold GivesH rdH;rw[h];exact⟨rfl,hb⟩
theorem GivesH.yes{w w':World}{l:List UInt8}{most e a p:Nat}(h:Str.hOk l most=true)(h1:Str.hEp l=e)(h2:Str.hAr l=a)(h3:Str.hPg l=p)(hb:Below w.heap.size w w'):GivesH w l most (.returned (.tuple #[.int .i64 (e:Int),.int .i64 (a:Int),.int .i64 (p:Int),.bool true])) w':=by
 subst h1;subst h2;subst h3;unfold GivesH rdH;rw[h,if_pos rfl];exact⟨rfl,hb⟩
theorem wrap_small{x:Int}(h0:0≤x)(h1:x<9223372036854775808):IntKind.i64.wrap x=x:=by rw[IntKind.wrap_i64];omega
theorem ep_wrap(n2 n3 n4 n5:Nat)(h2:n2<256)(h3:n3<256)(h4:n4<256)(h5:n5<256):IntKind.i64.wrap (IntKind.i64.wrap (IntKind.i64.wrap (IntKind.i64.wrap (16777216*IntKind.i64.wrap (n2:Int))+IntKind.i64.wrap (65536*IntKind.i64.wrap (n3:Int)))+IntKind.i64.wrap (256*IntKind.i64.wrap (n4:Int)))+IntKind.i64.wrap (n5:Int))=((16777216*n2+65536*n3+256*n4+n5:Nat):Int):=by
 rw[wrap_small (x:=(n2:Int)) (by omega) (by omega),wrap_small (x:=(n3:Int)) (by omega) (by omega),wrap_small (x:=(n4:Int)) (by omega) (by omega),wrap_small (x:=(n5:Int)) (by omega) (by omega),wrap_small (x:=16777216*(n2:Int)) (by omega) (by omega),wrap_small (x:=65536*(n3:Int)) (by omega) (by omega),wrap_small (x:=256*(n4:Int)) (by omega) (by omega),wrap_small (x:=16777216*(n2:Int)+65536*(n3:Int)) (by omega) (by omega),wrap_small (x:=16777216*(n2:Int)+65536*(n3:Int)+256*(n4:Int)) (by omega) (by omega),wrap_small (x:=16777216*(n2:Int)+65536*(n3:Int)+256*(n4:Int)+(n5:Int)) (by omega) (by omega)];omega
theorem pg_wrap(n7 n8:Nat)(h7:n7<256)(h8:n8<256):IntKind.i64.wrap (IntKind.i64.wrap (256*IntKind.i64.wrap (n7:Int))+IntKind.i64.wrap (n8:Int))=((256*n7+n8:Nat):Int):=by
 rw[wrap_small (x:=(n7:Int)) (by omega) (by omega),wrap_small (x:=(n8:Int)) (by omega) (by omega),wrap_small (x:=256*(n7:Int)) (by omega) (by omega),wrap_small (x:=256*(n7:Int)+(n8:Int)) (by omega) (by omega)];omega
theorem rdh8_any{A:Nat→Prop}{w:World}{tv:Value}{s:Sim}(k:Nat)(h:TRd A w tv s)(hok:OK s)(hk:k<s.firm.length)(hn:64≤s.firm.length):
  Calls Tryz.prog 97 #[tv,.int .i64 (k:Int)] w (GivesH w (s.read k) (aN s.firm.length)):=by
 obtain⟨aS,cS,aL,cL,cw,cf,f,lf,rfl⟩:=h.six_;have hN:=hok.n;obtain⟨W1,hW1⟩:∃W1,W1=(w.alloc (Obj.cells #[.slice aS s.firm.length cS,.slice aL s.loose.length cL,.int .i64 cw,.int .i64 cf,.bool f,.int .i64 lf] 29)):=⟨_,rfl⟩
 have ai:Below w.heap.size w W1:=by rw[hW1];exact(Below.refl _ _).alloc (Nat.le_refl _) _
 have hk1:Dv.Blk W1 w.heap.size 29 #[.slice aS s.firm.length cS,.slice aL s.loose.length cL,.int .i64 cw,.int .i64 cf,.bool f,.int .i64 lf]:=by rw[hW1];exact heap_alloc_new w _
 have fe:=refread_any k (h.below ai) hk hok.w hN;have ck:=hok.read hk;obtain⟨l,hl⟩:∃l,l=s.read k:=⟨_,rfl⟩
 rw[←hl] at fe ck⊢;obtain⟨n,hne⟩:∃n,n=s.firm.length:=⟨_,rfl⟩
 rw[←hne] at fe hk1 hW1 hn hN hk⊢;have ak:=fun X=>layout8_any (n:Int) (by omega) (by omega) X
 rw[layJ_nat,layA_nat] at ak;obtain⟨M,hM⟩:∃M,M=aN n:=⟨_,rfl⟩
 obtain⟨J,hJ⟩:∃J,J=jN n:=⟨_,rfl⟩
 have Mw:M≤600:=by rw[hM];have:=aN_le n;omega
 rw[←hM,←hJ] at ak;rw[←hM];have aZ:=qH ak;have dC:=qH fe;have aD:=qH hk1;have aw:=qH ai;have dM:=qH hW1;have mM:=qH ck;clear h hok fe hk1 ai hW1 ak hM hJ hne hl ck;go_enter Tryz.func97,Tryz.ntmps97;go_wp2_with fail
 rw[←dM.out];go_at_call 100;refine dC.out.mono ?_;rintro e w1⟨u,rfl,mm,hb1⟩;have bY:=mm.1.below hb1;have rO:=qH bY;have al:=qH (aw.out.trans (hb1.mono aw.out.size));have Eb:=qH (show w.heap.size<w1.heap.size from(aD.out.below hb1 aD.out.lt).lt);have hx0:=(aD.out.below hb1 aD.out.lt).cell 0;simp at hx0;obtain⟨Au,cu,rfl,kH,hcm,hc⟩:=bY;unfold maxLen at hcm;have ck:=mM.out;rw[ck] at kH⊢;obtain⟨g,off,rfl,hg,hc⟩:∃g off,Au=some ⟨g,off,none⟩∧g<w1.heap.size∧∀j (h:j<l.length),w1.cell? ⟨g,off+j,none⟩=some (bv l[j]):=by
  rcases hc with hc|⟨g,off,h1,h2,h3⟩
  ·rw[hc] at ck;cases ck
  ·exact⟨g,off,h1,h2,h3⟩
 obtain⟨n2,fU⟩:∃n,n=(l[2]'(by omega)).toNat:=⟨_,rfl⟩
 have hx2:n2<256:=by rw[fU];exact UInt8.toNat_lt _
 have hc2:w1.cell? ⟨g,off+2,none⟩=some (.int .u8 (n2:Int)):=by rw[fU];exact hc 2 (by omega)
 have DI:=qH fU;clear fU;obtain⟨n3,my⟩:∃n,n=(l[3]'(by omega)).toNat:=⟨_,rfl⟩
 have hx3:n3<256:=by rw[my];exact UInt8.toNat_lt _
 have hc3:w1.cell? ⟨g,off+3,none⟩=some (.int .u8 (n3:Int)):=by rw[my];exact hc 3 (by omega)
 have CD:=qH my;clear my;obtain⟨n4,dt⟩:∃n,n=(l[4]'(by omega)).toNat:=⟨_,rfl⟩
 have BJ:n4<256:=by rw[dt];exact UInt8.toNat_lt _
 have Bo:w1.cell? ⟨g,off+4,none⟩=some (.int .u8 (n4:Int)):=by rw[dt];exact hc 4 (by omega)
 have EK:=qH dt;clear dt;obtain⟨n5,di⟩:∃n,n=(l[5]'(by omega)).toNat:=⟨_,rfl⟩
 have sP:n5<256:=by rw[di];exact UInt8.toNat_lt _
 have lX:w1.cell? ⟨g,off+5,none⟩=some (.int .u8 (n5:Int)):=by rw[di];exact hc 5 (by omega)
 have xI:=qH di;clear di;obtain⟨n6,pD⟩:∃n,n=(l[6]'(by omega)).toNat:=⟨_,rfl⟩
 have sy:n6<256:=by rw[pD];exact UInt8.toNat_lt _
 have xi:w1.cell? ⟨g,off+6,none⟩=some (.int .u8 (n6:Int)):=by rw[pD];exact hc 6 (by omega)
 have EI:=qH pD;clear pD;obtain⟨n7,pW⟩:∃n,n=(l[7]'(by omega)).toNat:=⟨_,rfl⟩
 have Hr:n7<256:=by rw[pW];exact UInt8.toNat_lt _
 have BX:w1.cell? ⟨g,off+7,none⟩=some (.int .u8 (n7:Int)):=by rw[pW];exact hc 7 (by omega)
 have D7:=qH pW;clear pW;obtain⟨n8,pM⟩:∃n,n=(l[8]'(by omega)).toNat:=⟨_,rfl⟩
 have IG:n8<256:=by rw[pM];exact UInt8.toNat_lt _
 have sq:w1.cell? ⟨g,off+8,none⟩=some (.int .u8 (n8:Int)):=by rw[pM];exact hc 8 (by omega)
 have FY:=qH pM;clear pM;clear mm hb1 hc;obtain⟨EP,zj⟩:∃P,P=16777216*n2+65536*n3+256*n4+n5:=⟨_,rfl⟩
 obtain⟨PG,vF⟩:∃P,P=256*n7+n8:=⟨_,rfl⟩
 have rE:=qH zj;have vp:=qH vF;have he:Str.hEp l=EP:=by rw[rE.out,DI.out,CD.out,EK.out,xI.out];unfold Str.hEp;simp only[List.getD_eq_getElem?_getD];rw[List.getElem?_eq_getElem (by omega),List.getElem?_eq_getElem (by omega),List.getElem?_eq_getElem (by omega),List.getElem?_eq_getElem (by omega)];simp only[Option.getD_some];omega
 have ha:Str.hAr l=n6:=by rw[EI.out];unfold Str.hAr;rw[List.getD_eq_getElem?_getD,List.getElem?_eq_getElem (by omega)];rfl
 have ia:Str.hPg l=PG:=by rw[vp.out,D7.out,FY.out];unfold Str.hPg;simp only[List.getD_eq_getElem?_getD];rw[List.getElem?_eq_getElem (by omega),List.getElem?_eq_getElem (by omega)];simp only[Option.getD_some];omega
 have hok:Str.hOk l M=if 1≤EP∧EP≤1073741824∧n6<2∧1≤PG∧PG≤M then (Str.headL EP n6 PG==l) else false:=by unfold Str.hOk;rw[he,ha,ia]
 have bm:=qH hok;have HE:=qH he;have HA:=qH ha;have HP:=qH ia;have wK:IntKind.i64.wrap (IntKind.i64.wrap (IntKind.i64.wrap (IntKind.i64.wrap (16777216*IntKind.i64.wrap (n2:Int))+IntKind.i64.wrap (65536*IntKind.i64.wrap (n3:Int)))+IntKind.i64.wrap (256*IntKind.i64.wrap (n4:Int)))+IntKind.i64.wrap (n5:Int))=(EP:Int):=by rw[rE.out];exact ep_wrap n2 n3 n4 n5 hx2 hx3 BJ sP
 have zM:IntKind.i64.wrap (IntKind.i64.wrap (256*IntKind.i64.wrap (n7:Int))+IntKind.i64.wrap (n8:Int))=(PG:Int):=by rw[vp.out];exact pg_wrap n7 n8 Hr IG
 have B8:=qH wK;have Lr:=qH zM;clear hok he ha ia zj vF wK zM;go_wp2_with fail
 refine wp_region_held_drew (S:=SB [w1]) (by kernel_rfl) (SB.start _) (fun hHeld=>?_);refine tkC 0 ?_;refine tkC 1 ?_;refine tkA 2 (v:=?_) ?_ ?_;rotate_left
 ·intro W hSw;have hq:=((SB.b0 hSw).cell (p:=⟨g,off+2,none⟩) hg).trans hc2;go_simp;try (with_reducible rfl)
 try simp only[Act.put,zA,zB,zC]
 refine tkC 3 ?_;refine tkC 4 ?_;refine tkC 5 ?_;refine tkC 6 ?_;refine tkA 7 (v:=?_) ?_ ?_;rotate_left
 ·intro W hSw;have hq:=((SB.b0 hSw).cell (p:=⟨g,off+3,none⟩) hg).trans hc3;go_simp;try (with_reducible rfl)
 try simp only[Act.put,zA,zB,zC]
 refine tkC 8 ?_;refine tkC 9 ?_;refine tkC 10 ?_;refine tkC 11 ?_;refine tkC 12 ?_;refine tkA 13 (v:=?_) ?_ ?_;rotate_left
 ·intro W hSw;have hq:=((SB.b0 hSw).cell (p:=⟨g,off+4,none⟩) hg).trans Bo;go_simp;try (with_reducible rfl)
 try simp only[Act.put,zA,zB,zC]
 refine tkC 14 ?_;refine tkC 15 ?_;refine tkC 16 ?_;refine tkC 17 ?_;refine tkC 18 ?_;refine tkA 19 (v:=?_) ?_ ?_;rotate_left
 ·intro W hSw;have hq:=((SB.b0 hSw).cell (p:=⟨g,off+5,none⟩) hg).trans lX;go_simp;try (with_reducible rfl)
 try simp only[Act.put,zA,zB,zC]
 refine tkC 20 ?_;refine tkC 21 ?_;refine tkC 22 ?_;refine wpAnyH_done (by kernel_rfl) ?_ _;rw[B8.out];clear hHeld;have hd2:Below w1.heap.size w1 w1.drew:=(Below.refl _ _).drew;have hg2:g<w1.drew.heap.size:=hg;have yi:=(hd2.cell (p:=⟨g,off+6,none⟩) hg).trans xi;have tg:=(hd2.cell (p:=⟨g,off+7,none⟩) hg).trans BX;have tf:=(hd2.cell (p:=⟨g,off+8,none⟩) hg).trans sq;generalize hw2:w1.drew=w2 at hd2 hg2 yi tg tf⊢;clear hc2 hc3 Bo lX xi BX sq hw2;go_wp2_with fail
 refine wp_region_held_drew (S:=SB [w2]) (by kernel_rfl) (SB.start _) (fun hHeld=>?_);refine tkC 0 ?_;refine tkC 1 ?_;refine tkA 2 (v:=?_) ?_ ?_;rotate_left
 ·intro W hSw;have hq:=((SB.b0 hSw).cell (p:=⟨g,off+7,none⟩) hg2).trans tg;go_simp;try (with_reducible rfl)
 try simp only[Act.put,zA,zB,zC]
 refine tkC 3 ?_;refine tkC 4 ?_;refine tkC 5 ?_;refine tkC 6 ?_;refine tkA 7 (v:=?_) ?_ ?_;rotate_left
 ·intro W hSw;have hq:=((SB.b0 hSw).cell (p:=⟨g,off+8,none⟩) hg2).trans tf;go_simp;try (with_reducible rfl)
 try simp only[Act.put,zA,zB,zC]
 refine tkC 8 ?_;refine tkC 9 ?_;refine tkC 10 ?_;refine wpAnyH_done (by kernel_rfl) ?_ _;rw[Lr.out];clear hHeld;have hd3:Below w1.heap.size w1 w2.drew:=hd2.trans ((Below.refl w2.heap.size w2).drew.mono hd2.size);have hx2:=(hd3.cell (p:=⟨w.heap.size,0,none⟩) Eb.out).trans hx0;have bM:=qH (rO.out.below hd3);generalize hw3:w2.drew=w3 at hd3 hx2 bM⊢;have aj:=qH (al.out.trans (hd3.mono al.out.size));clear hd2 hg2 yi tg tf hw3 hd3 hx0 rO al hg;go_wp2_with (go_at_call 30;refine(aZ.out _).mono ?_;rintro e w2 ⟨rfl,rfl⟩)
 by_cases c1:EP<1
 ·have kn:=qH (show Str.hOk l M=false from by rw[bm.out,if_neg (by omega)])
  have k1:(EP:Int)<1:=by omega
  clear c1;refine wp_region_held_drew (S:=SB [w3]) (by kernel_rfl) (SB.start _) (fun hHeld=>?_);refine tkC 0 ?_;refine tkC 1 ?_;refine tkC 2 ?_;refine tkB 3 ?_;refine tkB 4 ?_;refine tkC 5 ?_;refine tkC 6 ?_;refine tkB 7 ?_;refine tkB 8 ?_;refine tkC 9 ?_;refine tkC 10 ?_;refine tkB 11 ?_;refine tkB 12 ?_;refine tkC 13 ?_;refine tkC 14 ?_;refine tkB 15 ?_;refine tkB 16 ?_;refine tkB 17 ?_;refine tkC 18 ?_;refine tkC 19 ?_;refine tkB 20 ?_;refine tkB 21 ?_;refine tkB 22 ?_;refine tkB 23 ?_;refine tkB 24 ?_;refine tkB 25 ?_;refine tkB 26 ?_;refine tkB 27 ?_;refine tkC 28 ?_;refine wpAnyH_done (by kernel_rfl) ?_ _;clear hHeld;go_wp2_with (refine bodyPost_ret (v:= .tuple #[.int .i64 0,.int .i64 0,.int .i64 0,.bool false]) (by simp[results,Tryz.results97,go_sem]) rfl (GivesH.no kn.out (aj.out.trans (((Below.refl w3.heap.size w3).drew).mono aj.out.size))))
 by_cases c2:1073741824<EP
 ·have kn:=qH (show Str.hOk l M=false from by rw[bm.out,if_neg (by omega)])
  have k1:¬(EP:Int)<1:=by omega
  have k2:(1073741824:Int)<(EP:Int):=by omega
  clear c1 c2;refine wp_region_held_drew (S:=SB [w3]) (by kernel_rfl) (SB.start _) (fun hHeld=>?_);refine tkC 0 ?_;refine tkC 1 ?_;refine tkC 2 ?_;refine tkC 3 ?_;refine tkC 4 ?_;refine tkC 5 ?_;refine tkC 6 ?_;refine tkB 7 ?_;refine tkB 8 ?_;refine tkC 9 ?_;refine tkC 10 ?_;refine tkB 11 ?_;refine tkB 12 ?_;refine tkC 13 ?_;refine tkC 14 ?_;refine tkB 15 ?_;refine tkB 16 ?_;refine tkB 17 ?_;refine tkC 18 ?_;refine tkC 19 ?_;refine tkB 20 ?_;refine tkB 21 ?_;refine tkB 22 ?_;refine tkB 23 ?_;refine tkB 24 ?_;refine tkB 25 ?_;refine tkB 26 ?_;refine tkB 27 ?_;refine tkC 28 ?_;refine wpAnyH_done (by kernel_rfl) ?_ _;clear hHeld;go_wp2_with (refine bodyPost_ret (v:= .tuple #[.int .i64 0,.int .i64 0,.int .i64 0,.bool false]) (by simp[results,Tryz.results97,go_sem]) rfl (GivesH.no kn.out (aj.out.trans (((Below.refl w3.heap.size w3).drew).mono aj.out.size))))
 by_cases c3:1<n6
 ·have kn:=qH (show Str.hOk l M=false from by rw[bm.out,if_neg (by omega)])
  have k1:¬(EP:Int)<1:=by omega
  have k2:¬(1073741824:Int)<(EP:Int):=by omega
  have k3:(1:Int)<(n6:Int):=by omega
  clear c1 c2 c3;refine wp_region_held_drew (S:=SB [w3]) (by kernel_rfl) (SB.start _) (fun hHeld=>?_);refine tkC 0 ?_;refine tkC 1 ?_;refine tkC 2 ?_;refine tkC 3 ?_;refine tkC 4 ?_;refine tkC 5 ?_;refine tkC 6 ?_;refine tkC 7 ?_;refine tkC 8 ?_;refine tkC 9 ?_;refine tkC 10 ?_;refine tkB 11 ?_;refine tkB 12 ?_;refine tkC 13 ?_;refine tkC 14 ?_;refine tkB 15 ?_;refine tkB 16 ?_;refine tkB 17 ?_;refine tkC 18 ?_;refine tkC 19 ?_;refine tkB 20 ?_;refine tkB 21 ?_;refine tkB 22 ?_;refine tkB 23 ?_;refine tkB 24 ?_;refine tkB 25 ?_;refine tkB 26 ?_;refine tkB 27 ?_;refine tkC 28 ?_;refine wpAnyH_done (by kernel_rfl) ?_ _;clear hHeld;go_wp2_with (refine bodyPost_ret (v:= .tuple #[.int .i64 0,.int .i64 0,.int .i64 0,.bool false]) (by simp[results,Tryz.results97,go_sem]) rfl (GivesH.no kn.out (aj.out.trans (((Below.refl w3.heap.size w3).drew).mono aj.out.size))))
 by_cases c4:PG<1
 ·have kn:=qH (show Str.hOk l M=false from by rw[bm.out,if_neg (by omega)])
  have k1:¬(EP:Int)<1:=by omega
  have k2:¬(1073741824:Int)<(EP:Int):=by omega
  have k3:¬(1:Int)<(n6:Int):=by omega
  have k4:(PG:Int)<1:=by omega
  clear c1 c2 c3 c4;refine wp_region_held_drew (S:=SB [w3]) (by kernel_rfl) (SB.start _) (fun hHeld=>?_);refine tkC 0 ?_;refine tkC 1 ?_;refine tkC 2 ?_;refine tkC 3 ?_;refine tkC 4 ?_;refine tkC 5 ?_;refine tkC 6 ?_;refine tkC 7 ?_;refine tkC 8 ?_;refine tkC 9 ?_;refine tkC 10 ?_;refine tkC 11 ?_;refine tkC 12 ?_;refine tkC 13 ?_;refine tkC 14 ?_;refine tkB 15 ?_;refine tkB 16 ?_;refine tkB 17 ?_;refine tkC 18 ?_;refine tkC 19 ?_;refine tkB 20 ?_;refine tkB 21 ?_;refine tkB 22 ?_;refine tkB 23 ?_;refine tkB 24 ?_;refine tkB 25 ?_;refine tkB 26 ?_;refine tkB 27 ?_;refine tkC 28 ?_;refine wpAnyH_done (by kernel_rfl) ?_ _;clear hHeld;go_wp2_with (refine bodyPost_ret (v:= .tuple #[.int .i64 0,.int .i64 0,.int .i64 0,.bool false]) (by simp[results,Tryz.results97,go_sem]) rfl (GivesH.no kn.out (aj.out.trans (((Below.refl w3.heap.size w3).drew).mono aj.out.size))))
 by_cases c5:M<PG
 ·have kn:=qH (show Str.hOk l M=false from by rw[bm.out,if_neg (by omega)])
  have k1:¬(EP:Int)<1:=by omega
  have k2:¬(1073741824:Int)<(EP:Int):=by omega
  have k3:¬(1:Int)<(n6:Int):=by omega
  have k4:¬(PG:Int)<1:=by omega
  have k5:(M:Int)<(PG:Int):=by omega
  clear c1 c2 c3 c4 c5;refine wp_region_held_drew (S:=SB [w3]) (by kernel_rfl) (SB.start _) (fun hHeld=>?_);refine tkC 0 ?_;refine tkC 1 ?_;refine tkC 2 ?_;refine tkC 3 ?_;refine tkC 4 ?_;refine tkC 5 ?_;refine tkC 6 ?_;refine tkC 7 ?_;refine tkC 8 ?_;refine tkC 9 ?_;refine tkC 10 ?_;refine tkC 11 ?_;refine tkC 12 ?_;refine tkC 13 ?_;refine tkC 14 ?_;refine tkC 15 ?_;refine tkC 16 ?_;refine tkC 17 ?_;refine tkC 18 ?_;refine tkC 19 ?_;refine tkB 20 ?_;refine tkB 21 ?_;refine tkB 22 ?_;refine tkB 23 ?_;refine tkB 24 ?_;refine tkB 25 ?_;refine tkB 26 ?_;refine tkB 27 ?_;refine tkC 28 ?_;refine wpAnyH_done (by kernel_rfl) ?_ _;clear hHeld;go_wp2_with (refine bodyPost_ret (v:= .tuple #[.int .i64 0,.int .i64 0,.int .i64 0,.bool false]) (by simp[results,Tryz.results97,go_sem]) rfl (GivesH.no kn.out (aj.out.trans (((Below.refl w3.heap.size w3).drew).mono aj.out.size))))
 have k1:¬(EP:Int)<1:=by omega
 have k2:¬(1073741824:Int)<(EP:Int):=by omega
 have k3:¬(1:Int)<(n6:Int):=by omega
 have k4:¬(PG:Int)<1:=by omega
 have k5:¬(M:Int)<(PG:Int):=by omega
 clear c1 c2 c3 c4 c5;have x6:=qH (show RB w3 (.slice (some ⟨g,off,none⟩) 64 cu) l by have h:=bM.out;rw[ck] at h;exact h);obtain⟨S,hS⟩:∃S,S=Str.headL EP n6 PG:=⟨_,rfl⟩
 have eW:Str.hOk l M=(S==l):=by rw[bm.out,if_pos (by omega),hS]
 have lR:=qH eW;have nj:=fun X=>head8_any EP n6 PG (by omega) (by omega) (by omega) X
 rw[←hS] at nj;have sV:=qH nj;clear nj hS eW;by_cases hse:S=l
 ·have kn:=qH (show Str.hOk l M=true from by rw[lR.out,hse];exact beq_self_eq_true _)
  refine wp_region_held_drew (S:=SB [w3]) (by kernel_rfl) (SB.start _) (fun hHeld=>?_);refine tkC 0 ?_;refine tkC 1 ?_;refine tkC 2 ?_;refine tkC 3 ?_;refine tkC 4 ?_;refine tkC 5 ?_;refine tkC 6 ?_;refine tkC 7 ?_;refine tkC 8 ?_;refine tkC 9 ?_;refine tkC 10 ?_;refine tkC 11 ?_;refine tkC 12 ?_;refine tkC 13 ?_;refine tkC 14 ?_;refine tkC 15 ?_;refine tkC 16 ?_;refine tkC 17 ?_;refine tkC 18 ?_;refine tkC 19 ?_;refine tkC 20 ?_;refine tkC 21 ?_;refine tkC 22 ?_;refine tkC 25 ?_;refine tkA 26 (v:=?_) ?_ ?_;rotate_left
  ·intro W hSw;have hq:=str22 (x6.out.below (SB.b0 hSw));go_simp;try (with_reducible rfl)
  try simp only[Act.put,zA,zB,zC]
  refine rdA (rs:= [23]) ?_;refine arC (fun K hK=>?_);go_simp;refine(sV.out _).mono ?_;rintro e w4⟨v4,rfl,aO,ap⟩;have dQ:=qH (RB.own aO);obtain⟨A4,c4,rfl,_⟩:=own_shape aO;clear aO;rw[hse] at dQ;try rw[ck] at dQ
  try (go_wp2_with fail)
  have ac:=SB.step hHeld ap;refine hK.out _ _ ?_ (fun _=>?_)
  ·exact ac
  clear hK K;try simp only[Act.put,zA,zB,zC]
  have hHeld:=SB.more ac;clear ac;refine wpAnyH_more (S':=SB [w4,w3]) (fun W h=>SB.less W h) _ _ _ _ ?_;refine tkA 24 (v:=?_) ?_ ?_;rotate_left
  ·intro W hSw;have hq:=str22 (dQ.out.below (SB.b0 hSw));go_simp;try (with_reducible rfl)
  try simp only[Act.put,zA,zB,zC]
  refine tkC 27 ?_;refine tkC 28 ?_;refine wpAnyH_done (by kernel_rfl) ?_ _;have aw:=qH (SB.b1 hHeld);clear hHeld;go_wp2_with (refine bodyPost_ret (v:= .tuple #[.int .i64 (EP:Int),.int .i64 (n6:Int),.int .i64 (PG:Int),.bool true]) (by simp[results,Tryz.results97,go_sem]) rfl (GivesH.yes kn.out HE.out HA.out HP.out (aj.out.trans (aw.out.mono aj.out.size))))
 ·have kn:=qH (show Str.hOk l M=false from by rw[lR.out];exact beq_eq_false_iff_ne.2 hse)
  have hv1:((⟨S.toArray⟩:ByteArray).toList !=(⟨l.toArray⟩:ByteArray).toList)=true:=bne_iff_ne.2 (ba_neL (ba_ne hse));have hv2:((⟨S.toArray⟩:ByteArray).toList==(⟨l.toArray⟩:ByteArray).toList)=false:=beq_eq_false_iff_ne.2 (ba_neL (ba_ne hse));obtain⟨q1,hq1⟩:∃z,z=(⟨S.toArray⟩:ByteArray):=⟨_,rfl⟩
  obtain⟨q2,hq2⟩:∃z,z=(⟨l.toArray⟩:ByteArray):=⟨_,rfl⟩
  rw[←hq1,←hq2] at hv1 hv2;have l9:=qH hq1;have j4:=qH hq2;clear hq1 hq2 hse;refine wp_region_held_drew (S:=SB [w3]) (by kernel_rfl) (SB.start _) (fun hHeld=>?_);refine tkC 0 ?_;refine tkC 1 ?_;refine tkC 2 ?_;refine tkC 3 ?_;refine tkC 4 ?_;refine tkC 5 ?_;refine tkC 6 ?_;refine tkC 7 ?_;refine tkC 8 ?_;refine tkC 9 ?_;refine tkC 10 ?_;refine tkC 11 ?_;refine tkC 12 ?_;refine tkC 13 ?_;refine tkC 14 ?_;refine tkC 15 ?_;refine tkC 16 ?_;refine tkC 17 ?_;refine tkC 18 ?_;refine tkC 19 ?_;refine tkC 20 ?_;refine tkC 21 ?_;refine tkC 22 ?_;refine tkC 25 ?_;refine tkA 26 (v:=?_) ?_ ?_;rotate_left
  ·intro W hSw;have hq:=str22 (x6.out.below (SB.b0 hSw));rw[←j4.out] at hq;go_simp;try (with_reducible rfl)
  try simp only[Act.put,zA,zB,zC]
  refine rdA (rs:= [23]) ?_;refine arC (fun K hK=>?_);go_simp;refine(sV.out _).mono ?_;rintro e w4⟨v4,rfl,aO,ap⟩;have dQ:=qH (RB.own aO);obtain⟨A4,c4,rfl,_⟩:=own_shape aO;clear aO;try rw[ck] at dQ
  try (go_wp2_with fail)
  have ac:=SB.step hHeld ap;refine hK.out _ _ ?_ (fun _=>?_)
  ·exact ac
  clear hK K;try simp only[Act.put,zA,zB,zC]
  have hHeld:=SB.more ac;clear ac;refine wpAnyH_more (S':=SB [w4,w3]) (fun W h=>SB.less W h) _ _ _ _ ?_;refine tkA 24 (v:=?_) ?_ ?_;rotate_left
  ·intro W hSw;have hq:=str22 (dQ.out.below (SB.b0 hSw));rw[←l9.out] at hq;go_simp;try (with_reducible rfl)
  try simp only[Act.put,zA,zB,zC]
  refine tkC 27 ?_;refine tkC 28 ?_;refine wpAnyH_done (by kernel_rfl) ?_ _;have aw:=qH (SB.b1 hHeld);clear hHeld;go_wp2_with (refine bodyPost_ret (v:= .tuple #[.int .i64 0,.int .i64 0,.int .i64 0,.bool false]) (by simp[results,Tryz.results97,go_sem]) rfl (GivesH.no kn.out (aj.out.trans (aw.out.mono aj.out.size))))
theorem newK_two(s:Sim):newK s 2=(if Str.hOk (s.read 1) (aN s.firm.length)=true∧(Str.hOk (s.read 0) (aN s.firm.length)=false∨(rdH (s.read 0) (aN s.firm.length)).1<(rdH (s.read 1) (aN s.firm.length)).1) then rdH (s.read 1) (aN s.firm.length) else rdH (s.read 0) (aN s.firm.length)):=by
 have hpos:∀l M,Str.hOk l M=true→1≤Str.hEp l:=fun l M h=>by
  unfold Str.hOk at h;split at h
  ·rename_i hc;exact hc.1
  ·cases h
 show updH (updH (0,0,0) (s.read 0) _) (s.read 1) _=_;generalize aN s.firm.length=M;generalize s.read 0=a;generalize s.read 1=b;have e0:updH (0,0,0) a M=rdH a M:=by
  unfold updH rdH
  cases ha:Str.hOk a M with
  |false=>rw[if_neg (by simp),if_neg (by simp)]
  |true=>rw[if_pos ⟨rfl,hpos _ _ ha⟩,if_pos rfl]
 rw[e0];unfold updH
 cases hb:Str.hOk b M with
 |false=>rw[if_neg (by simp),if_neg (by simp)]
 |true=>
  have eb:rdH b M=(Str.hEp b,Str.hAr b,Str.hPg b):=by unfold rdH;rw[hb,if_pos rfl]
  rw[eb]
  cases ha:Str.hOk a M with
  |false=>
   have ea:rdH a M=(0,0,0):=by unfold rdH;rw[ha,if_neg (by simp)]
   rw[ea,if_pos ⟨rfl,hpos _ _ hb⟩,if_pos ⟨rfl,.inl rfl⟩]
  |true=>
   by_cases hlt:(rdH a M).1<Str.hEp b
   ·rw[if_pos ⟨rfl,hlt⟩,if_pos ⟨rfl,.inr hlt⟩]
   ·rw[if_neg (fun h=>hlt h.2),if_neg (fun h=>by rcases h.2 with h|h;exact absurd h (by simp);exact hlt h)]
theorem found_ok(s:Sim):decide (0<(newK s 2).1)=(Str.hOk (s.read 0) (aN s.firm.length)||Str.hOk (s.read 1) (aN s.firm.length)):=by
 have hpos:∀l M,Str.hOk l M=true→1≤(rdH l M).1:=fun l M h=>by
  unfold rdH;rw[h,if_pos rfl];unfold Str.hOk at h;split at h
  ·rename_i hc;exact hc.1
  ·cases h
 have hno:∀l M,Str.hOk l M=false→(rdH l M).1=0:=fun l M h=>by unfold rdH;rw[h,if_neg (by simp)]
 rw[newK_two];generalize aN s.firm.length=M;generalize s.read 0=a;generalize s.read 1=b
 cases hb:Str.hOk b M with
 |false=>
  rw[if_neg (by simp)]
  cases ha:Str.hOk a M with
  |false=>rw[hno _ _ ha];rfl
  |true=>have:=hpos _ _ ha;simp;omega
 |true=>
  have h1:=hpos _ _ hb
  cases ha:Str.hOk a M with
  |false=>rw[if_pos ⟨rfl,.inl rfl⟩];simp;omega
  |true=>
   have h2:=hpos _ _ ha;split <;>simp <;>omega
theorem found8_any{A:Nat→Prop}{w:World}{tv:Value}{s:Sim}(h:TRd A w tv s)(hok:OK s)(hn:64≤s.firm.length):
  Calls Tryz.prog 53 #[tv] w fun e w'=>e= .returned (.tuple #[.int .i64 ((newK s 2).1:Int),.int .i64 ((newK s 2).2.1:Int),.int .i64 ((newK s 2).2.2:Int),.bool (decide (0<(newK s 2).1))])∧Below w.heap.size w w':=by
 have oB:=newK_two s;have qS:=found_ok s;obtain⟨aS,cS,aL,cL,cw,cf,f,lf,rfl⟩:=h.six_;obtain⟨W1,hW1⟩:∃W1,W1=(w.alloc (Obj.cells #[.slice aS s.firm.length cS,.slice aL s.loose.length cL,.int .i64 cw,.int .i64 cf,.bool f,.int .i64 lf] 29)):=⟨_,rfl⟩
 have ai:Below w.heap.size w W1:=by rw[hW1];exact(Below.refl _ _).alloc (Nat.le_refl _) _
 have hk1:Dv.Blk W1 w.heap.size 29 #[.slice aS s.firm.length cS,.slice aL s.loose.length cL,.int .i64 cw,.int .i64 cf,.bool f,.int .i64 lf]:=by rw[hW1];exact heap_alloc_new w _
 have h0:=rdh8_any 0 (h.below ai) hok (by omega) hn;have h1:=fun(X:World) (hX:Below W1.heap.size W1 X)=>rdh8_any 1 ((h.below ai).below hX) hok (by omega) hn
 generalize aN s.firm.length=M at h0 h1 oB qS;generalize s.read 0=l0 at h0 oB qS;generalize s.read 1=l1 at h1 oB qS;generalize newK s 2=K at oB qS⊢;unfold GivesH at h0 h1;generalize hx0:rdH l0 M=x0 at h0 oB;generalize hx1:rdH l1 M=x1 at h1 oB;generalize Str.hOk l0 M=b0 at h0 oB qS;generalize Str.hOk l1 M=b1 at h1 oB qS;obtain⟨e0,a0,p0⟩:=x0;obtain⟨e1,a1,p1⟩:=x1;simp only[] at h0 h1 oB;have H0:=qH h0;have H1:=qH h1;have aw:=qH ai;have dM:=qH hW1;have aD:=qH hk1;have GN:=qH qS;have B1:=qH oB;clear h hok hn hW1 ai hk1 h0 h1 hx0 hx1 oB qS;go_enter Tryz.func53,Tryz.ntmps53;go_wp2_with fail
 rw[←dM.out];refine H0.out.mono ?_;rintro e w1⟨rfl,hb1⟩;have hk2:=aD.out.below hb1 aD.out.lt;obtain⟨z0,z1,z2,z3,z4,z5⟩:=cl6 hk2;have al:=qH hb1;clear hk2 hb1;go_wp2_with fail
 refine(H1.out _ al.out).mono ?_;rintro e w2⟨rfl,hb2⟩;have ae:=qH ((aw.out.trans (al.out.mono aw.out.size)).trans (hb2.mono (Nat.le_trans aw.out.size al.out.size)));clear hb2 z0 z1 z2 z3 z4 z5
 cases b1 with
 |false=>
  have hK:K=(e0,a0,p0):=by rw[B1.out,if_neg (by simp)]
  have hF:decide (0<K.1)=b0:=by rw[GN.out];simp
  subst hK;have HF:=qH hF;clear hF;go_wp2_with (refine bodyPost_ret (v:= .tuple #[.int .i64 (e0:Int),.int .i64 (a0:Int),.int .i64 (p0:Int),.bool b0]) (by simp[results,Tryz.results53,go_sem]) rfl ⟨by rw[HF.out],ae.out⟩)
 |true=>
  have hF:decide (0<K.1)=true:=by rw[GN.out];simp
  have HF:=qH hF;clear hF
  cases b0 with
  |false=>
   have hK:K=(e1,a1,p1):=by rw[B1.out,if_pos ⟨rfl,.inl rfl⟩]
   subst hK;go_wp2_with (refine bodyPost_ret (v:= .tuple #[.int .i64 (e1:Int),.int .i64 (a1:Int),.int .i64 (p1:Int),.bool true]) (by simp[results,Tryz.results53,go_sem]) rfl ⟨by rw[HF.out],ae.out⟩)
  |true=>
   by_cases hlt:e0<e1
   ·have hK:K=(e1,a1,p1):=by rw[B1.out,if_pos ⟨rfl,.inr hlt⟩]
    subst hK;have hlt':(e0:Int)<(e1:Int):=by omega
    go_wp2_with (refine bodyPost_ret (v:= .tuple #[.int .i64 (e1:Int),.int .i64 (a1:Int),.int .i64 (p1:Int),.bool true]) (by simp[results,Tryz.results53,go_sem]) rfl ⟨by rw[HF.out],ae.out⟩)
   ·have hK:K=(e0,a0,p0):=by rw[B1.out,if_neg (fun h=>by rcases h.2 with h|h;exact absurd h (by simp);exact hlt h)]
    subst hK;have hlt':¬(e0:Int)<(e1:Int):=by omega
    go_wp2_with (refine bodyPost_ret (v:= .tuple #[.int .i64 (e0:Int),.int .i64 (a0:Int),.int .i64 (p0:Int),.bool true]) (by simp[results,Tryz.results53,go_sem]) rfl ⟨by rw[HF.out],ae.out⟩)
end Go.Proofs.YtmbkaedhllfoeaaGreat
