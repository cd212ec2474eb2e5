/-
  Texts of the proof, put together.
-/
import Derived.Test.YtmbkaedhllfoeaaGreatKPCH
import Derived.Test.YtmbkaedhllfoeaaGreatKPDF
import Derived.Test.YtmbkaedhllfoeaaGreatKPDH
import Derived.Test.YtmbkaedhllfoeaaGreatKPWr
set_option maxRecDepth 100000
set_option maxHeartbeats 4000000
set_option linter.unusedVariables false
namespace Go.Proofs.YtmbkaedhllfoeaaGreat
open Go.RowKit Go.Rst Go.Dv Go.Crc Go.Str
def laidL(s:Sim)(ar pg:Nat):List (List UInt8):=chunkL256 (secsL s (firstN s.firm.length ar) (pg*4)).flatten
theorem laid_any{D:Nat→Prop}{w:World}{v:Value}{s:Sim}(ep ar pg:Nat)(h:Dev D w v s)(hn:64≤s.firm.length)(har:ar≤1)(hp0:0<pg)(gB:pg≤aN s.firm.length):
  Calls Tryz.prog 47 #[dv v,.agg #[.int .i64 (ep:Int),.int .i64 (ar:Int),.int .i64 (pg:Int)]] w fun e w'=>∃pv,e= .returned pv∧PN w' w.heap.size pv (laidL s ar pg)∧Below w.heap.size w w':=by
 have HN:=h.ok.n;have bq:=qH h.ok;have H:=qH h;obtain⟨g,rfl⟩:=dev_ptr h;have ms:=firstN_le hn har gB;have ha:=aN_le s.firm.length;obtain⟨F,hF⟩:∃F,F=firstN s.firm.length ar:=⟨_,rfl⟩
 rw[←hF] at ms;have HF:=qH hF;have Kj:pg≤600:=by omega
 have pj:((pg*4:Nat):Int)=(pg:Int)*4:=by omega
 have hc1:=fun X (hX:Below w.heap.size w X)=>first_any (w:=X) ar har (H.out.below hX)
 rw[←hF] at hc1;have pN:=qH hc1;have hc2:=fun X (hX:Below w.heap.size w X)=>rd_any (w:=X) F (pg*4) (H.out.below hX) (by omega)
 rw[pj] at hc2;have C9:=qH hc2;have hw4:IntKind.i64.wrap ((pg:Int)*4)=(pg:Int)*4:=by rw[IntKind.wrap_i64];omega
 obtain⟨B,hB⟩:∃B,B=Obj.cells #[.int .i64 (ep:Int),.int .i64 (ar:Int),.int .i64 (pg:Int)] 91:=⟨_,rfl⟩
 have kb:Dv.Blk (w.alloc B) w.heap.size 91 #[.int .i64 (ep:Int),.int .i64 (ar:Int),.int .i64 (pg:Int)]:=by rw[hB];exact heap_alloc_new w _
 have KB:=qH kb;have b7:=qH hB;have hb1:Below w.heap.size w (w.alloc B):=(Below.refl _ _).alloc (Nat.le_refl _) _;have an:=qH hb1;clear h ha hF pj hc1 hc2 kb hB hb1;go_enter Tryz.func47,Tryz.ntmps47;go_wp2_with fail
 rw[←b7.out];refine wp_region_held_drew (S:=fun X=>Dv.Blk X w.heap.size 91 #[.int .i64 (ep:Int),.int .i64 (ar:Int),.int .i64 (pg:Int)]∧Below w.heap.size w X) (by kernel_rfl) ⟨KB.out,an.out.drew⟩ (fun hHeld=>?_);refine tkC 0 ?_;refine tkC 1 ?_;refine tkC 2 ?_;refine tkA 3 (v:=?_) ?_ ?_;rotate_left
 ·intro X hSw;have z0:=hSw.1.cell 0;have z1:=hSw.1.cell 1;have z2:=hSw.1.cell 2;simp at z0 z1 z2;go_simp;try (with_reducible rfl)
 try simp only[Act.put,zA,zB,zC]
 refine tkC 5 ?_;refine tkA 6 (v:=?_) ?_ ?_;rotate_left
 ·intro X hSw;have z0:=hSw.1.cell 0;have z1:=hSw.1.cell 1;have z2:=hSw.1.cell 2;simp at z0 z1 z2;go_simp;try (with_reducible rfl)
 try simp only[Act.put,zA,zB,zC]
 refine tkC 7 ?_;refine rdA (rs:= [4]) ?_;refine arC (fun K hK=>?_);go_simp;refine(pN.out _ hHeld.2).mono ?_;rintro e w3⟨rfl,rfl⟩;try (go_wp2_with fail)
 refine hK.out _ _ ?_ (fun _=>?_)
 ·exact hHeld
 clear hK K;try simp only[Act.put,zA,zB,zC]
 refine rdA (rs:= [8]) ?_;refine arC (fun K hK=>?_);go_simp;refine(C9.out _ hHeld.2).mono ?_;rintro e w4⟨pv,rfl,hop,hb4⟩;obtain⟨Ap,cp,hpv,j8,i9⟩:=hop.shape;rw[secsL_len] at hpv i9;subst hpv;have b8:=qH hop.pn;have ai:=qH (hHeld.2.trans (hb4.mono hHeld.2.size));have AZ:=qH (hHeld.1.below hb4 hHeld.1.lt);clear hop hb4;try (go_wp2_with fail)
 have ac:=(show Dv.Blk w4 w.heap.size 91 #[.int .i64 (ep:Int),.int .i64 (ar:Int),.int .i64 (pg:Int)]∧Below w.heap.size w w4 from⟨AZ.out,ai.out⟩)
 refine hK.out _ _ ?_ (fun _=>?_)
 ·exact ac
 clear hK K hHeld;have hHeld:=ac;clear ac;try simp only[Act.put,zA,zB,zC]
 refine tkC 9 ?_;refine wpAnyH_done (by kernel_rfl) ?_ _;clear hHeld KB AZ;have hsl:=bq.out;obtain⟨SL,yc⟩:∃SL,SL=secsL s F (pg*4):=⟨_,rfl⟩
 have qR:∀x∈SL,x.length=64:=by
  intro x hx;rw[yc] at hx;unfold secsL at hx;obtain⟨i,hi,rfl⟩:=List.mem_map.1 hx;exact hsl.read (by have:=List.mem_range.1 hi;omega)
 have pd:SL.length=pg*4:=by rw[yc];exact secsL_len _ _ _
 obtain⟨bl,hbl⟩:∃bl,bl=SL.flatten:=⟨_,rfl⟩
 have hfl:bl.length=pg*4*64:=by rw[hbl,flat_length qR,pd]
 rw[←yc] at b8;obtain⟨qs,zv,zu⟩:=b8.out.ps (by intro e;rw[e] at pd;simp at pd;omega);have cG:=cat_flatten zv;rw[←hbl] at cG;have hcc:=concat_any _ qs w4 zu (by rw[cG,hfl];omega);rw[cG] at hcc;have qV:=qH hcc;have iJ:=qH hfl;have fy:=qH hbl;have x7:=qH yc;clear hcc zv zu cG qR pd hfl hbl yc hsl;go_wp2_with fail
 go_at_call 78;refine qV.out.mono ?_;rintro e w5⟨v2,rfl,aQ,hb2⟩;obtain⟨b2,c2,rfl⟩:=ownsRow_succ (k:=bl.length-1) (by rw[Nat.sub_add_cancel (by have:=iJ.out;omega)];exact aQ);rw[Nat.sub_add_cancel (by have:=iJ.out;omega)] at aQ⊢;have fQ:=qH aQ;have ae:=qH hb2;clear aQ hb2;go_wp2_with fail
 go_at_call 77;refine(chunk256_any _ w5 rfl).mono ?_;rintro e w6⟨rfl,xT⟩;have jk:=dc256_new (RB.own fQ.out);rw[←xT] at jk;have ap:Below w5.heap.size w5 w6:=by rw[xT];exact((Below.refl _ _).alloc (Nat.le_refl _) _).alloc (by simp) _
 have DM:=qH jk;have aE:=qH ap;clear xT jk ap;go_wp2_with fail
 go_at_call 76;refine(coll256_any b2 0 c2 bl.length w5.heap.size bl w6 rfl DM.out (by have:=iJ.out;omega)).mono ?_;rintro e w7⟨sv,us,rfl,ah,kZ,hxs,br⟩;have vE:=ae.out.trans (((aE.out).trans (br.mono aE.out.size)).mono ae.out.size);have Aj:=ai.out.trans (vE.mono ai.out.size);have hO:w4.heap.size≤b2∧b2<w5.heap.size:=by
  rcases fQ.out.2 with ⟨h0,_⟩|⟨g',cap',cur',he',hbb',hg',_⟩
  ·cases h0
  ·injection he' with he' _ _;injection he' with he';injection he' with he' _;subst he';exact⟨hbb',(Array.getElem?_eq_some_iff.1 hg').1⟩
 have iV:=pieces_pn (base:=w4.heap.size) ah (own_base kZ (Nat.le_trans ae.out.size aE.out.size)) hxs ((RB.own fQ.out).below ((aE.out).trans (br.mono aE.out.size))) hO.1 (Nat.lt_of_lt_of_le hO.2 (Nat.le_trans aE.out.size br.size));have tI:=iV.base_ ai.out.size;rw[fy.out,x7.out,HF.out] at tI;have iE:=qH (show PN w7 w.heap.size sv (laidL s ar pg) from tI);have bo:=qH Aj;obtain⟨As,cs,rfl,_⟩:=own_shape kZ;clear ah kZ hxs br vE Aj hO iV tI;go_wp2;go_ret;exact⟨_,rfl,iE.out,bo.out⟩
def rdH(l:List UInt8)(most:Nat):Nat×Nat×Nat:=if Str.hOk l most=true then (Str.hEp l,Str.hAr l,Str.hPg l) else (0,0,0)
def GivesH(w:World)(l:List UInt8)(most:Nat)(e:Ending)(w':World):Prop:=
 e= .returned (.tuple #[.int .i64 ((rdH l most).1:Int),.int .i64 ((rdH l most).2.1:Int),.int .i64 ((rdH l most).2.2:Int),.bool (Str.hOk l most)])∧Below w.heap.size w w'
theorem GivesH.no{w w':World}{l:List UInt8}{most:Nat}(h:Str.hOk l most=false)(hb:Below w.heap.size w w'):GivesH w l most (.returned (.tuple #[.int .i64 0,.int .i64 0,.int .i64 0,.bool false])) w':=by
 unfold GivesH rdH;rw[h];exact⟨rfl,hb⟩
theorem GivesH.yes{w w':World}{l:List UInt8}{most e a p:Nat}(h:Str.hOk l most=true)(h1:Str.hEp l=e)(h2:Str.hAr l=a)(h3:Str.hPg l=p)(hb:Below w.heap.size w w'):GivesH w l most (.returned (.tuple #[.int .i64 (e:Int),.int .i64 (a:Int),.int .i64 (p:Int),.bool true])) w':=by
 subst h1;subst h2;subst h3;unfold GivesH rdH;rw[h,if_pos rfl];exact⟨rfl,hb⟩
theorem wrap_small{x:Int}(h0:0≤x)(h1:x<9223372036854775808):IntKind.i64.wrap x=x:=by rw[IntKind.wrap_i64];omega
theorem ep_wrap(n2 n3 n4 n5:Nat)(h2:n2<256)(h3:n3<256)(h4:n4<256)(h5:n5<256):IntKind.i64.wrap (IntKind.i64.wrap (IntKind.i64.wrap (IntKind.i64.wrap (16777216*IntKind.i64.wrap (n2:Int))+IntKind.i64.wrap (65536*IntKind.i64.wrap (n3:Int)))+IntKind.i64.wrap (256*IntKind.i64.wrap (n4:Int)))+IntKind.i64.wrap (n5:Int))=((16777216*n2+65536*n3+256*n4+n5:Nat):Int):=by
 rw[wrap_small (x:=(n2:Int)) (by omega) (by omega),wrap_small (x:=(n3:Int)) (by omega) (by omega),wrap_small (x:=(n4:Int)) (by omega) (by omega),wrap_small (x:=(n5:Int)) (by omega) (by omega),wrap_small (x:=16777216*(n2:Int)) (by omega) (by omega),wrap_small (x:=65536*(n3:Int)) (by omega) (by omega),wrap_small (x:=256*(n4:Int)) (by omega) (by omega),wrap_small (x:=16777216*(n2:Int)+65536*(n3:Int)) (by omega) (by omega),wrap_small (x:=16777216*(n2:Int)+65536*(n3:Int)+256*(n4:Int)) (by omega) (by omega),wrap_small (x:=16777216*(n2:Int)+65536*(n3:Int)+256*(n4:Int)+(n5:Int)) (by omega) (by omega)];omega
theorem pg_wrap(n7 n8:Nat)(h7:n7<256)(h8:n8<256):IntKind.i64.wrap (IntKind.i64.wrap (256*IntKind.i64.wrap (n7:Int))+IntKind.i64.wrap (n8:Int))=((256*n7+n8:Nat):Int):=by
 rw[wrap_small (x:=(n7:Int)) (by omega) (by omega),wrap_small (x:=(n8:Int)) (by omega) (by omega),wrap_small (x:=256*(n7:Int)) (by omega) (by omega),wrap_small (x:=256*(n7:Int)+(n8:Int)) (by omega) (by omega)];omega
theorem rdh8_any{A:Nat→Prop}{w:World}{tv:Value}{s:Sim}(k:Nat)(h:TRd A w tv s)(hok:OK s)(hk:k<s.firm.length)(hn:64≤s.firm.length):
  Calls Tryz.prog 97 #[tv,.int .i64 (k:Int)] w (GivesH w (s.read k) (aN s.firm.length)):=by
 obtain⟨aS,cS,aL,cL,cw,cf,f,lf,rfl⟩:=h.six_;have hN:=hok.n;obtain⟨W1,hW1⟩:∃W1,W1=(w.alloc (Obj.cells #[.slice aS s.firm.length cS,.slice aL s.loose.length cL,.int .i64 cw,.int .i64 cf,.bool f,.int .i64 lf] 29)):=⟨_,rfl⟩
 have aj:Below w.heap.size w W1:=by rw[hW1];exact(Below.refl _ _).alloc (Nat.le_refl _) _
 have hk1:Dv.Blk W1 w.heap.size 29 #[.slice aS s.firm.length cS,.slice aL s.loose.length cL,.int .i64 cw,.int .i64 cf,.bool f,.int .i64 lf]:=by rw[hW1];exact heap_alloc_new w _
 have fk:=refread_any k (h.below aj) hk hok.w hN;have dm:=hok.read hk;obtain⟨l,hl⟩:∃l,l=s.read k:=⟨_,rfl⟩
 rw[←hl] at fk dm⊢;obtain⟨n,hne⟩:∃n,n=s.firm.length:=⟨_,rfl⟩
 rw[←hne] at fk hk1 hW1 hn hN hk⊢;have al:=fun X=>layout8_any (n:Int) (by omega) (by omega) X
 rw[layJ_nat,layA_nat] at al;obtain⟨M,hM⟩:∃M,M=aN n:=⟨_,rfl⟩
 obtain⟨J,hJ⟩:∃J,J=jN n:=⟨_,rfl⟩
 have Lo:M≤600:=by rw[hM];have:=aN_le n;omega
 rw[←hM,←hJ] at al;rw[←hM];have bh:=qH al;have dB:=qH fk;have aD:=qH hk1;have aw:=qH aj;have dU:=qH hW1;have Ep:=qH dm;clear h hok fk hk1 aj hW1 al hM hJ hne hl dm;go_enter Tryz.func97,Tryz.ntmps97;go_wp2_with fail
 rw[←dU.out];go_at_call 100;refine dB.out.mono ?_;rintro e w1⟨u,rfl,yf,hb1⟩;have bZ:=yf.1.below hb1;have qM:=qH bZ;have an:=qH (aw.out.trans (hb1.mono aw.out.size));have EK:=qH (show w.heap.size<w1.heap.size from(aD.out.below hb1 aD.out.lt).lt);have hx0:=(aD.out.below hb1 aD.out.lt).cell 0;simp at hx0;obtain⟨Au,cu,rfl,kf,hcm,hc⟩:=bZ;unfold maxLen at hcm;have dm:=Ep.out;rw[dm] at kf⊢;obtain⟨g,off,rfl,hg,hc⟩:∃g off,Au=some ⟨g,off,none⟩∧g<w1.heap.size∧∀j (h:j<l.length),w1.cell? ⟨g,off+j,none⟩=some (bv l[j]):=by
  rcases hc with hc|⟨g,off,h1,h2,h3⟩
  ·rw[hc] at dm;cases dm
  ·exact⟨g,off,h1,h2,h3⟩
 obtain⟨n2,iR⟩:∃n,n=(l[2]'(by omega)).toNat:=⟨_,rfl⟩
 have hx2:n2<256:=by rw[iR];exact UInt8.toNat_lt _
 have hc2:w1.cell? ⟨g,off+2,none⟩=some (.int .u8 (n2:Int)):=by rw[iR];exact hc 2 (by omega)
 have B1:=qH iR;clear iR;obtain⟨n3,lE⟩:∃n,n=(l[3]'(by omega)).toNat:=⟨_,rfl⟩
 have hx3:n3<256:=by rw[lE];exact UInt8.toNat_lt _
 have hc3:w1.cell? ⟨g,off+3,none⟩=some (.int .u8 (n3:Int)):=by rw[lE];exact hc 3 (by omega)
 have Ey:=qH lE;clear lE;obtain⟨n4,di⟩:∃n,n=(l[4]'(by omega)).toNat:=⟨_,rfl⟩
 have E8:n4<256:=by rw[di];exact UInt8.toNat_lt _
 have Ay:w1.cell? ⟨g,off+4,none⟩=some (.int .u8 (n4:Int)):=by rw[di];exact hc 4 (by omega)
 have Di:=qH di;clear di;obtain⟨n5,dj⟩:∃n,n=(l[5]'(by omega)).toNat:=⟨_,rfl⟩
 have rA:n5<256:=by rw[dj];exact UInt8.toNat_lt _
 have lW:w1.cell? ⟨g,off+5,none⟩=some (.int .u8 (n5:Int)):=by rw[dj];exact hc 5 (by omega)
 have BL:=qH dj;clear dj;obtain⟨n6,p8⟩:∃n,n=(l[6]'(by omega)).toNat:=⟨_,rfl⟩
 have qE:n6<256:=by rw[p8];exact UInt8.toNat_lt _
 have wn:w1.cell? ⟨g,off+6,none⟩=some (.int .u8 (n6:Int)):=by rw[p8];exact hc 6 (by omega)
 have Eb:=qH p8;clear p8;obtain⟨n7,pP⟩:∃n,n=(l[7]'(by omega)).toNat:=⟨_,rfl⟩
 have yq:n7<256:=by rw[pP];exact UInt8.toNat_lt _
 have zY:w1.cell? ⟨g,off+7,none⟩=some (.int .u8 (n7:Int)):=by rw[pP];exact hc 7 (by omega)
 have BB:=qH pP;clear pP;obtain⟨n8,pf⟩:∃n,n=(l[8]'(by omega)).toNat:=⟨_,rfl⟩
 have F2:n8<256:=by rw[pf];exact UInt8.toNat_lt _
 have ra:w1.cell? ⟨g,off+8,none⟩=some (.int .u8 (n8:Int)):=by rw[pf];exact hc 8 (by omega)
 have Dp:=qH pf;clear pf;clear yf hb1 hc;obtain⟨EP,xf⟩:∃P,P=16777216*n2+65536*n3+256*n4+n5:=⟨_,rfl⟩
 obtain⟨PG,uY⟩:∃P,P=256*n7+n8:=⟨_,rfl⟩
 have rd:=qH xf;have vc:=qH uY;have he:Str.hEp l=EP:=by rw[rd.out,B1.out,Ey.out,Di.out,BL.out];unfold Str.hEp;simp only[List.getD_eq_getElem?_getD];rw[List.getElem?_eq_getElem (by omega),List.getElem?_eq_getElem (by omega),List.getElem?_eq_getElem (by omega),List.getElem?_eq_getElem (by omega)];simp only[Option.getD_some];omega
 have ha:Str.hAr l=n6:=by rw[Eb.out];unfold Str.hAr;rw[List.getD_eq_getElem?_getD,List.getElem?_eq_getElem (by omega)];rfl
 have gB:Str.hPg l=PG:=by rw[vc.out,BB.out,Dp.out];unfold Str.hPg;simp only[List.getD_eq_getElem?_getD];rw[List.getElem?_eq_getElem (by omega),List.getElem?_eq_getElem (by omega)];simp only[Option.getD_some];omega
 have hok:Str.hOk l M=if 1≤EP∧EP≤1073741824∧n6<2∧1≤PG∧PG≤M then (Str.headL EP n6 PG==l) else false:=by unfold Str.hOk;rw[he,ha,gB]
 have bq:=qH hok;have HE:=qH he;have HA:=qH ha;have HP:=qH gB;have zy:IntKind.i64.wrap (IntKind.i64.wrap (IntKind.i64.wrap (IntKind.i64.wrap (16777216*IntKind.i64.wrap (n2:Int))+IntKind.i64.wrap (65536*IntKind.i64.wrap (n3:Int)))+IntKind.i64.wrap (256*IntKind.i64.wrap (n4:Int)))+IntKind.i64.wrap (n5:Int))=(EP:Int):=by rw[rd.out];exact ep_wrap n2 n3 n4 n5 hx2 hx3 E8 rA
 have x6:IntKind.i64.wrap (IntKind.i64.wrap (256*IntKind.i64.wrap (n7:Int))+IntKind.i64.wrap (n8:Int))=(PG:Int):=by rw[vc.out];exact pg_wrap n7 n8 yq F2
 have Bh:=qH zy;have Jw:=qH x6;clear hok he ha gB xf uY zy x6;go_wp2_with fail
 refine wp_region_held_drew (S:=SB [w1]) (by kernel_rfl) (SB.start _) (fun hHeld=>?_);refine tkC 0 ?_;refine tkC 1 ?_;refine tkA 2 (v:=?_) ?_ ?_;rotate_left
 ·intro W hSw;have hq:=((SB.b0 hSw).cell (p:=⟨g,off+2,none⟩) hg).trans hc2;go_simp;try (with_reducible rfl)
 try simp only[Act.put,zA,zB,zC]
 refine tkC 3 ?_;refine tkC 4 ?_;refine tkC 5 ?_;refine tkC 6 ?_;refine tkA 7 (v:=?_) ?_ ?_;rotate_left
 ·intro W hSw;have hq:=((SB.b0 hSw).cell (p:=⟨g,off+3,none⟩) hg).trans hc3;go_simp;try (with_reducible rfl)
 try simp only[Act.put,zA,zB,zC]
 refine tkC 8 ?_;refine tkC 9 ?_;refine tkC 10 ?_;refine tkC 11 ?_;refine tkC 12 ?_;refine tkA 13 (v:=?_) ?_ ?_;rotate_left
 ·intro W hSw;have hq:=((SB.b0 hSw).cell (p:=⟨g,off+4,none⟩) hg).trans Ay;go_simp;try (with_reducible rfl)
 try simp only[Act.put,zA,zB,zC]
 refine tkC 14 ?_;refine tkC 15 ?_;refine tkC 16 ?_;refine tkC 17 ?_;refine tkC 18 ?_;refine tkA 19 (v:=?_) ?_ ?_;rotate_left
 ·intro W hSw;have hq:=((SB.b0 hSw).cell (p:=⟨g,off+5,none⟩) hg).trans lW;go_simp;try (with_reducible rfl)
 try simp only[Act.put,zA,zB,zC]
 refine tkC 20 ?_;refine tkC 21 ?_;refine tkC 22 ?_;refine wpAnyH_done (by kernel_rfl) ?_ _;rw[Bh.out];clear hHeld;have hd2:Below w1.heap.size w1 w1.drew:=(Below.refl _ _).drew;have hg2:g<w1.drew.heap.size:=hg;have ya:=(hd2.cell (p:=⟨g,off+6,none⟩) hg).trans wn;have sH:=(hd2.cell (p:=⟨g,off+7,none⟩) hg).trans zY;have tB:=(hd2.cell (p:=⟨g,off+8,none⟩) hg).trans ra;generalize hw2:w1.drew=w2 at hd2 hg2 ya sH tB⊢;clear hc2 hc3 Ay lW wn zY ra hw2;go_wp2_with fail
 refine wp_region_held_drew (S:=SB [w2]) (by kernel_rfl) (SB.start _) (fun hHeld=>?_);refine tkC 0 ?_;refine tkC 1 ?_;refine tkA 2 (v:=?_) ?_ ?_;rotate_left
 ·intro W hSw;have hq:=((SB.b0 hSw).cell (p:=⟨g,off+7,none⟩) hg2).trans sH;go_simp;try (with_reducible rfl)
 try simp only[Act.put,zA,zB,zC]
 refine tkC 3 ?_;refine tkC 4 ?_;refine tkC 5 ?_;refine tkC 6 ?_;refine tkA 7 (v:=?_) ?_ ?_;rotate_left
 ·intro W hSw;have hq:=((SB.b0 hSw).cell (p:=⟨g,off+8,none⟩) hg2).trans tB;go_simp;try (with_reducible rfl)
 try simp only[Act.put,zA,zB,zC]
 refine tkC 8 ?_;refine tkC 9 ?_;refine tkC 10 ?_;refine wpAnyH_done (by kernel_rfl) ?_ _;rw[Jw.out];clear hHeld;have hd3:Below w1.heap.size w1 w2.drew:=hd2.trans ((Below.refl w2.heap.size w2).drew.mono hd2.size);have hx2:=(hd3.cell (p:=⟨w.heap.size,0,none⟩) EK.out).trans hx0;have bO:=qH (qM.out.below hd3);generalize hw3:w2.drew=w3 at hd3 hx2 bO⊢;have ak:=qH (an.out.trans (hd3.mono an.out.size));clear hd2 hg2 ya sH tB hw3 hd3 hx0 qM an hg;go_wp2_with (go_at_call 30;refine(bh.out _).mono ?_;rintro e w2 ⟨rfl,rfl⟩)
 by_cases c1:EP<1
 ·have j2:=qH (show Str.hOk l M=false from by rw[bq.out,if_neg (by omega)])
  have k1:(EP:Int)<1:=by omega
  clear c1;refine wp_region_held_drew (S:=SB [w3]) (by kernel_rfl) (SB.start _) (fun hHeld=>?_);refine tkC 0 ?_;refine tkC 1 ?_;refine tkC 2 ?_;refine tkB 3 ?_;refine tkB 4 ?_;refine tkC 5 ?_;refine tkC 6 ?_;refine tkB 7 ?_;refine tkB 8 ?_;refine tkC 9 ?_;refine tkC 10 ?_;refine tkB 11 ?_;refine tkB 12 ?_;refine tkC 13 ?_;refine tkC 14 ?_;refine tkB 15 ?_;refine tkB 16 ?_;refine tkB 17 ?_;refine tkC 18 ?_;refine tkC 19 ?_;refine tkB 20 ?_;refine tkB 21 ?_;refine tkB 22 ?_;refine tkB 23 ?_;refine tkB 24 ?_;refine tkB 25 ?_;refine tkB 26 ?_;refine tkB 27 ?_;refine tkC 28 ?_;refine wpAnyH_done (by kernel_rfl) ?_ _;clear hHeld;go_wp2_with (refine bodyPost_ret (v:= .tuple #[.int .i64 0,.int .i64 0,.int .i64 0,.bool false]) (by simp[results,Tryz.results97,go_sem]) rfl (GivesH.no j2.out (ak.out.trans (((Below.refl w3.heap.size w3).drew).mono ak.out.size))))
 by_cases c2:1073741824<EP
 ·have j2:=qH (show Str.hOk l M=false from by rw[bq.out,if_neg (by omega)])
  have k1:¬(EP:Int)<1:=by omega
  have k2:(1073741824:Int)<(EP:Int):=by omega
  clear c1 c2;refine wp_region_held_drew (S:=SB [w3]) (by kernel_rfl) (SB.start _) (fun hHeld=>?_);refine tkC 0 ?_;refine tkC 1 ?_;refine tkC 2 ?_;refine tkC 3 ?_;refine tkC 4 ?_;refine tkC 5 ?_;refine tkC 6 ?_;refine tkB 7 ?_;refine tkB 8 ?_;refine tkC 9 ?_;refine tkC 10 ?_;refine tkB 11 ?_;refine tkB 12 ?_;refine tkC 13 ?_;refine tkC 14 ?_;refine tkB 15 ?_;refine tkB 16 ?_;refine tkB 17 ?_;refine tkC 18 ?_;refine tkC 19 ?_;refine tkB 20 ?_;refine tkB 21 ?_;refine tkB 22 ?_;refine tkB 23 ?_;refine tkB 24 ?_;refine tkB 25 ?_;refine tkB 26 ?_;refine tkB 27 ?_;refine tkC 28 ?_;refine wpAnyH_done (by kernel_rfl) ?_ _;clear hHeld;go_wp2_with (refine bodyPost_ret (v:= .tuple #[.int .i64 0,.int .i64 0,.int .i64 0,.bool false]) (by simp[results,Tryz.results97,go_sem]) rfl (GivesH.no j2.out (ak.out.trans (((Below.refl w3.heap.size w3).drew).mono ak.out.size))))
 by_cases c3:1<n6
 ·have j2:=qH (show Str.hOk l M=false from by rw[bq.out,if_neg (by omega)])
  have k1:¬(EP:Int)<1:=by omega
  have k2:¬(1073741824:Int)<(EP:Int):=by omega
  have k3:(1:Int)<(n6:Int):=by omega
  clear c1 c2 c3;refine wp_region_held_drew (S:=SB [w3]) (by kernel_rfl) (SB.start _) (fun hHeld=>?_);refine tkC 0 ?_;refine tkC 1 ?_;refine tkC 2 ?_;refine tkC 3 ?_;refine tkC 4 ?_;refine tkC 5 ?_;refine tkC 6 ?_;refine tkC 7 ?_;refine tkC 8 ?_;refine tkC 9 ?_;refine tkC 10 ?_;refine tkB 11 ?_;refine tkB 12 ?_;refine tkC 13 ?_;refine tkC 14 ?_;refine tkB 15 ?_;refine tkB 16 ?_;refine tkB 17 ?_;refine tkC 18 ?_;refine tkC 19 ?_;refine tkB 20 ?_;refine tkB 21 ?_;refine tkB 22 ?_;refine tkB 23 ?_;refine tkB 24 ?_;refine tkB 25 ?_;refine tkB 26 ?_;refine tkB 27 ?_;refine tkC 28 ?_;refine wpAnyH_done (by kernel_rfl) ?_ _;clear hHeld;go_wp2_with (refine bodyPost_ret (v:= .tuple #[.int .i64 0,.int .i64 0,.int .i64 0,.bool false]) (by simp[results,Tryz.results97,go_sem]) rfl (GivesH.no j2.out (ak.out.trans (((Below.refl w3.heap.size w3).drew).mono ak.out.size))))
 by_cases c4:PG<1
 ·have j2:=qH (show Str.hOk l M=false from by rw[bq.out,if_neg (by omega)])
  have k1:¬(EP:Int)<1:=by omega
  have k2:¬(1073741824:Int)<(EP:Int):=by omega
  have k3:¬(1:Int)<(n6:Int):=by omega
  have k4:(PG:Int)<1:=by omega
  clear c1 c2 c3 c4;refine wp_region_held_drew (S:=SB [w3]) (by kernel_rfl) (SB.start _) (fun hHeld=>?_);refine tkC 0 ?_;refine tkC 1 ?_;refine tkC 2 ?_;refine tkC 3 ?_;refine tkC 4 ?_;refine tkC 5 ?_;refine tkC 6 ?_;refine tkC 7 ?_;refine tkC 8 ?_;refine tkC 9 ?_;refine tkC 10 ?_;refine tkC 11 ?_;refine tkC 12 ?_;refine tkC 13 ?_;refine tkC 14 ?_;refine tkB 15 ?_;refine tkB 16 ?_;refine tkB 17 ?_;refine tkC 18 ?_;refine tkC 19 ?_;refine tkB 20 ?_;refine tkB 21 ?_;refine tkB 22 ?_;refine tkB 23 ?_;refine tkB 24 ?_;refine tkB 25 ?_;refine tkB 26 ?_;refine tkB 27 ?_;refine tkC 28 ?_;refine wpAnyH_done (by kernel_rfl) ?_ _;clear hHeld;go_wp2_with (refine bodyPost_ret (v:= .tuple #[.int .i64 0,.int .i64 0,.int .i64 0,.bool false]) (by simp[results,Tryz.results97,go_sem]) rfl (GivesH.no j2.out (ak.out.trans (((Below.refl w3.heap.size w3).drew).mono ak.out.size))))
 by_cases c5:M<PG
 ·have j2:=qH (show Str.hOk l M=false from by rw[bq.out,if_neg (by omega)])
  have k1:¬(EP:Int)<1:=by omega
  have k2:¬(1073741824:Int)<(EP:Int):=by omega
  have k3:¬(1:Int)<(n6:Int):=by omega
  have k4:¬(PG:Int)<1:=by omega
  have k5:(M:Int)<(PG:Int):=by omega
  clear c1 c2 c3 c4 c5;refine wp_region_held_drew (S:=SB [w3]) (by kernel_rfl) (SB.start _) (fun hHeld=>?_);refine tkC 0 ?_;refine tkC 1 ?_;refine tkC 2 ?_;refine tkC 3 ?_;refine tkC 4 ?_;refine tkC 5 ?_;refine tkC 6 ?_;refine tkC 7 ?_;refine tkC 8 ?_;refine tkC 9 ?_;refine tkC 10 ?_;refine tkC 11 ?_;refine tkC 12 ?_;refine tkC 13 ?_;refine tkC 14 ?_;refine tkC 15 ?_;refine tkC 16 ?_;refine tkC 17 ?_;refine tkC 18 ?_;refine tkC 19 ?_;refine tkB 20 ?_;refine tkB 21 ?_;refine tkB 22 ?_;refine tkB 23 ?_;refine tkB 24 ?_;refine tkB 25 ?_;refine tkB 26 ?_;refine tkB 27 ?_;refine tkC 28 ?_;refine wpAnyH_done (by kernel_rfl) ?_ _;clear hHeld;go_wp2_with (refine bodyPost_ret (v:= .tuple #[.int .i64 0,.int .i64 0,.int .i64 0,.bool false]) (by simp[results,Tryz.results97,go_sem]) rfl (GivesH.no j2.out (ak.out.trans (((Below.refl w3.heap.size w3).drew).mono ak.out.size))))
 have k1:¬(EP:Int)<1:=by omega
 have k2:¬(1073741824:Int)<(EP:Int):=by omega
 have k3:¬(1:Int)<(n6:Int):=by omega
 have k4:¬(PG:Int)<1:=by omega
 have k5:¬(M:Int)<(PG:Int):=by omega
 clear c1 c2 c3 c4 c5;have vP:=qH (show RB w3 (.slice (some ⟨g,off,none⟩) 64 cu) l by have h:=bO.out;rw[dm] at h;exact h);obtain⟨S,hS⟩:∃S,S=Str.headL EP n6 PG:=⟨_,rfl⟩
 have eT:Str.hOk l M=(S==l):=by rw[bq.out,if_pos (by omega),hS]
 have lL:=qH eT;have oh:=fun X=>head8_any EP n6 PG (by omega) (by omega) (by omega) X
 rw[←hS] at oh;have ta:=qH oh;clear oh hS eT;by_cases hse:S=l
 ·have j2:=qH (show Str.hOk l M=true from by rw[lL.out,hse];exact beq_self_eq_true _)
  refine wp_region_held_drew (S:=SB [w3]) (by kernel_rfl) (SB.start _) (fun hHeld=>?_);refine tkC 0 ?_;refine tkC 1 ?_;refine tkC 2 ?_;refine tkC 3 ?_;refine tkC 4 ?_;refine tkC 5 ?_;refine tkC 6 ?_;refine tkC 7 ?_;refine tkC 8 ?_;refine tkC 9 ?_;refine tkC 10 ?_;refine tkC 11 ?_;refine tkC 12 ?_;refine tkC 13 ?_;refine tkC 14 ?_;refine tkC 15 ?_;refine tkC 16 ?_;refine tkC 17 ?_;refine tkC 18 ?_;refine tkC 19 ?_;refine tkC 20 ?_;refine tkC 21 ?_;refine tkC 22 ?_;refine tkC 25 ?_;refine tkA 26 (v:=?_) ?_ ?_;rotate_left
  ·intro W hSw;have hq:=str22 (vP.out.below (SB.b0 hSw));go_simp;try (with_reducible rfl)
  try simp only[Act.put,zA,zB,zC]
  refine rdA (rs:= [23]) ?_;refine arC (fun K hK=>?_);go_simp;refine(ta.out _).mono ?_;rintro e w4⟨v4,rfl,aO,aq⟩;have dI:=qH (RB.own aO);obtain⟨A4,c4,rfl,_⟩:=own_shape aO;clear aO;rw[hse] at dI;try rw[dm] at dI
  try (go_wp2_with fail)
  have ac:=SB.step hHeld aq;refine hK.out _ _ ?_ (fun _=>?_)
  ·exact ac
  clear hK K;try simp only[Act.put,zA,zB,zC]
  have hHeld:=SB.more ac;clear ac;refine wpAnyH_more (S':=SB [w4,w3]) (fun W h=>SB.less W h) _ _ _ _ ?_;refine tkA 24 (v:=?_) ?_ ?_;rotate_left
  ·intro W hSw;have hq:=str22 (dI.out.below (SB.b0 hSw));go_simp;try (with_reducible rfl)
  try simp only[Act.put,zA,zB,zC]
  refine tkC 27 ?_;refine tkC 28 ?_;refine wpAnyH_done (by kernel_rfl) ?_ _;have aw:=qH (SB.b1 hHeld);clear hHeld;go_wp2_with (refine bodyPost_ret (v:= .tuple #[.int .i64 (EP:Int),.int .i64 (n6:Int),.int .i64 (PG:Int),.bool true]) (by simp[results,Tryz.results97,go_sem]) rfl (GivesH.yes j2.out HE.out HA.out HP.out (ak.out.trans (aw.out.mono ak.out.size))))
 ·have j2:=qH (show Str.hOk l M=false from by rw[lL.out];exact beq_eq_false_iff_ne.2 hse)
  have hv1:((⟨S.toArray⟩:ByteArray).toList !=(⟨l.toArray⟩:ByteArray).toList)=true:=bne_iff_ne.2 (ba_neL (ba_ne hse));have hv2:((⟨S.toArray⟩:ByteArray).toList==(⟨l.toArray⟩:ByteArray).toList)=false:=beq_eq_false_iff_ne.2 (ba_neL (ba_ne hse));obtain⟨q1,hq1⟩:∃z,z=(⟨S.toArray⟩:ByteArray):=⟨_,rfl⟩
  obtain⟨q2,hq2⟩:∃z,z=(⟨l.toArray⟩:ByteArray):=⟨_,rfl⟩
  rw[←hq1,←hq2] at hv1 hv2;have lF:=qH hq1;have jz:=qH hq2;clear hq1 hq2 hse;refine wp_region_held_drew (S:=SB [w3]) (by kernel_rfl) (SB.start _) (fun hHeld=>?_);refine tkC 0 ?_;refine tkC 1 ?_;refine tkC 2 ?_;refine tkC 3 ?_;refine tkC 4 ?_;refine tkC 5 ?_;refine tkC 6 ?_;refine tkC 7 ?_;refine tkC 8 ?_;refine tkC 9 ?_;refine tkC 10 ?_;refine tkC 11 ?_;refine tkC 12 ?_;refine tkC 13 ?_;refine tkC 14 ?_;refine tkC 15 ?_;refine tkC 16 ?_;refine tkC 17 ?_;refine tkC 18 ?_;refine tkC 19 ?_;refine tkC 20 ?_;refine tkC 21 ?_;refine tkC 22 ?_;refine tkC 25 ?_;refine tkA 26 (v:=?_) ?_ ?_;rotate_left
  ·intro W hSw;have hq:=str22 (vP.out.below (SB.b0 hSw));rw[←jz.out] at hq;go_simp;try (with_reducible rfl)
  try simp only[Act.put,zA,zB,zC]
  refine rdA (rs:= [23]) ?_;refine arC (fun K hK=>?_);go_simp;refine(ta.out _).mono ?_;rintro e w4⟨v4,rfl,aO,aq⟩;have dI:=qH (RB.own aO);obtain⟨A4,c4,rfl,_⟩:=own_shape aO;clear aO;try rw[dm] at dI
  try (go_wp2_with fail)
  have ac:=SB.step hHeld aq;refine hK.out _ _ ?_ (fun _=>?_)
  ·exact ac
  clear hK K;try simp only[Act.put,zA,zB,zC]
  have hHeld:=SB.more ac;clear ac;refine wpAnyH_more (S':=SB [w4,w3]) (fun W h=>SB.less W h) _ _ _ _ ?_;refine tkA 24 (v:=?_) ?_ ?_;rotate_left
  ·intro W hSw;have hq:=str22 (dI.out.below (SB.b0 hSw));rw[←lF.out] at hq;go_simp;try (with_reducible rfl)
  try simp only[Act.put,zA,zB,zC]
  refine tkC 27 ?_;refine tkC 28 ?_;refine wpAnyH_done (by kernel_rfl) ?_ _;have aw:=qH (SB.b1 hHeld);clear hHeld;go_wp2_with (refine bodyPost_ret (v:= .tuple #[.int .i64 0,.int .i64 0,.int .i64 0,.bool false]) (by simp[results,Tryz.results97,go_sem]) rfl (GivesH.no j2.out (ak.out.trans (aw.out.mono ak.out.size))))
theorem newK_two(s:Sim):newK s 2=(if Str.hOk (s.read 1) (aN s.firm.length)=true∧(Str.hOk (s.read 0) (aN s.firm.length)=false∨(rdH (s.read 0) (aN s.firm.length)).1<(rdH (s.read 1) (aN s.firm.length)).1) then rdH (s.read 1) (aN s.firm.length) else rdH (s.read 0) (aN s.firm.length)):=by
 have hpos:∀l M,Str.hOk l M=true→1≤Str.hEp l:=fun l M h=>by
  unfold Str.hOk at h;split at h
  ·rename_i hc;exact hc.1
  ·cases h
 show updH (updH (0,0,0) (s.read 0) _) (s.read 1) _=_;generalize aN s.firm.length=M;generalize s.read 0=a;generalize s.read 1=b;have e0:updH (0,0,0) a M=rdH a M:=by
  unfold updH rdH
  cases ha:Str.hOk a M with
  |false=>rw[if_neg (by simp),if_neg (by simp)]
  |true=>rw[if_pos ⟨rfl,hpos _ _ ha⟩,if_pos rfl]
 rw[e0];unfold updH
 cases hb:Str.hOk b M with
 |false=>rw[if_neg (by simp),if_neg (by simp)]
 |true=>
  have eb:rdH b M=(Str.hEp b,Str.hAr b,Str.hPg b):=by unfold rdH;rw[hb,if_pos rfl]
  rw[eb]
  cases ha:Str.hOk a M with
  |false=>
   have ea:rdH a M=(0,0,0):=by unfold rdH;rw[ha,if_neg (by simp)]
   rw[ea,if_pos ⟨rfl,hpos _ _ hb⟩,if_pos ⟨rfl,.inl rfl⟩]
  |true=>
   by_cases hlt:(rdH a M).1<Str.hEp b
   ·rw[if_pos ⟨rfl,hlt⟩,if_pos ⟨rfl,.inr hlt⟩]
   ·rw[if_neg (fun h=>hlt h.2),if_neg (fun h=>by rcases h.2 with h|h;exact absurd h (by simp);exact hlt h)]
theorem found_ok(s:Sim):decide (0<(newK s 2).1)=(Str.hOk (s.read 0) (aN s.firm.length)||Str.hOk (s.read 1) (aN s.firm.length)):=by
 have hpos:∀l M,Str.hOk l M=true→1≤(rdH l M).1:=fun l M h=>by
  unfold rdH;rw[h,if_pos rfl];unfold Str.hOk at h;split at h
  ·rename_i hc;exact hc.1
  ·cases h
 have hno:∀l M,Str.hOk l M=false→(rdH l M).1=0:=fun l M h=>by unfold rdH;rw[h,if_neg (by simp)]
 rw[newK_two];generalize aN s.firm.length=M;generalize s.read 0=a;generalize s.read 1=b
 cases hb:Str.hOk b M with
 |false=>
  rw[if_neg (by simp)]
  cases ha:Str.hOk a M with
  |false=>rw[hno _ _ ha];rfl
  |true=>have:=hpos _ _ ha;simp;omega
 |true=>
  have h1:=hpos _ _ hb
  cases ha:Str.hOk a M with
  |false=>rw[if_pos ⟨rfl,.inl rfl⟩];simp;omega
  |true=>
   have h2:=hpos _ _ ha;split <;>simp <;>omega
theorem found8_any{A:Nat→Prop}{w:World}{tv:Value}{s:Sim}(h:TRd A w tv s)(hok:OK s)(hn:64≤s.firm.length):
  Calls Tryz.prog 53 #[tv] w fun e w'=>e= .returned (.tuple #[.int .i64 ((newK s 2).1:Int),.int .i64 ((newK s 2).2.1:Int),.int .i64 ((newK s 2).2.2:Int),.bool (decide (0<(newK s 2).1))])∧Below w.heap.size w w':=by
 have mO:=newK_two s;have qu:=found_ok s;obtain⟨aS,cS,aL,cL,cw,cf,f,lf,rfl⟩:=h.six_;obtain⟨W1,hW1⟩:∃W1,W1=(w.alloc (Obj.cells #[.slice aS s.firm.length cS,.slice aL s.loose.length cL,.int .i64 cw,.int .i64 cf,.bool f,.int .i64 lf] 29)):=⟨_,rfl⟩
 have aj:Below w.heap.size w W1:=by rw[hW1];exact(Below.refl _ _).alloc (Nat.le_refl _) _
 have hk1:Dv.Blk W1 w.heap.size 29 #[.slice aS s.firm.length cS,.slice aL s.loose.length cL,.int .i64 cw,.int .i64 cf,.bool f,.int .i64 lf]:=by rw[hW1];exact heap_alloc_new w _
 have h0:=rdh8_any 0 (h.below aj) hok (by omega) hn;have h1:=fun(X:World) (hX:Below W1.heap.size W1 X)=>rdh8_any 1 ((h.below aj).below hX) hok (by omega) hn
 generalize aN s.firm.length=M at h0 h1 mO qu;generalize s.read 0=l0 at h0 mO qu;generalize s.read 1=l1 at h1 mO qu;generalize newK s 2=K at mO qu⊢;unfold GivesH at h0 h1;generalize hx0:rdH l0 M=x0 at h0 mO;generalize hx1:rdH l1 M=x1 at h1 mO;generalize Str.hOk l0 M=b0 at h0 mO qu;generalize Str.hOk l1 M=b1 at h1 mO qu;obtain⟨e0,a0,p0⟩:=x0;obtain⟨e1,a1,p1⟩:=x1;simp only[] at h0 h1 mO;have H0:=qH h0;have H1:=qH h1;have aw:=qH aj;have dU:=qH hW1;have aD:=qH hk1;have GT:=qH qu;have AQ:=qH mO;clear h hok hn hW1 aj hk1 h0 h1 hx0 hx1 mO qu;go_enter Tryz.func53,Tryz.ntmps53;go_wp2_with fail
 rw[←dU.out];refine H0.out.mono ?_;rintro e w1⟨rfl,hb1⟩;have hk2:=aD.out.below hb1 aD.out.lt;obtain⟨z0,z1,z2,z3,z4,z5⟩:=cl6 hk2;have an:=qH hb1;clear hk2 hb1;go_wp2_with fail
 refine(H1.out _ an.out).mono ?_;rintro e w2⟨rfl,hb2⟩;have ae:=qH ((aw.out.trans (an.out.mono aw.out.size)).trans (hb2.mono (Nat.le_trans aw.out.size an.out.size)));clear hb2 z0 z1 z2 z3 z4 z5
 cases b1 with
 |false=>
  have hK:K=(e0,a0,p0):=by rw[AQ.out,if_neg (by simp)]
  have hF:decide (0<K.1)=b0:=by rw[GT.out];simp
  subst hK;have HF:=qH hF;clear hF;go_wp2_with (refine bodyPost_ret (v:= .tuple #[.int .i64 (e0:Int),.int .i64 (a0:Int),.int .i64 (p0:Int),.bool b0]) (by simp[results,Tryz.results53,go_sem]) rfl ⟨by rw[HF.out],ae.out⟩)
 |true=>
  have hF:decide (0<K.1)=true:=by rw[GT.out];simp
  have HF:=qH hF;clear hF
  cases b0 with
  |false=>
   have hK:K=(e1,a1,p1):=by rw[AQ.out,if_pos ⟨rfl,.inl rfl⟩]
   subst hK;go_wp2_with (refine bodyPost_ret (v:= .tuple #[.int .i64 (e1:Int),.int .i64 (a1:Int),.int .i64 (p1:Int),.bool true]) (by simp[results,Tryz.results53,go_sem]) rfl ⟨by rw[HF.out],ae.out⟩)
  |true=>
   by_cases hlt:e0<e1
   ·have hK:K=(e1,a1,p1):=by rw[AQ.out,if_pos ⟨rfl,.inr hlt⟩]
    subst hK;have hlt':(e0:Int)<(e1:Int):=by omega
    go_wp2_with (refine bodyPost_ret (v:= .tuple #[.int .i64 (e1:Int),.int .i64 (a1:Int),.int .i64 (p1:Int),.bool true]) (by simp[results,Tryz.results53,go_sem]) rfl ⟨by rw[HF.out],ae.out⟩)
   ·have hK:K=(e0,a0,p0):=by rw[AQ.out,if_neg (fun h=>by rcases h.2 with h|h;exact absurd h (by simp);exact hlt h)]
    subst hK;have hlt':¬(e0:Int)<(e1:Int):=by omega
    go_wp2_with (refine bodyPost_ret (v:= .tuple #[.int .i64 (e0:Int),.int .i64 (a0:Int),.int .i64 (p0:Int),.bool true]) (by simp[results,Tryz.results53,go_sem]) rfl ⟨by rw[HF.out],ae.out⟩)
end Go.Proofs.YtmbkaedhllfoeaaGreat
