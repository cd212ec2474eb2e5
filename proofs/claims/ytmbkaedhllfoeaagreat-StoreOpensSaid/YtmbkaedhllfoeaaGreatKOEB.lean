/-
  Texts of the proof, put together.
-/
import Derived.Test.YtmbkaedhllfoeaaGreatKODD
import Derived.Test.YtmbkaedhllfoeaaGreatKODI
import Derived.Test.YtmbkaedhllfoeaaGreatKOEA
import Derived.Test.YtmbkaedhllfoeaaGreatKOWr
set_option maxRecDepth 100000
set_option maxHeartbeats 4000000
set_option linter.unusedVariables false
namespace Go.Dv
open Go.RowKit Go.Rst
theorem Did.trans_{D E:Nat→Prop}{w w1 w2:World}{v:Value}{s2:Sim}(hF:Fr D w w1)(hk:∀k,E k→D k∨w.heap.size≤k)(h:Did E w1 v s2 w2):Did D w v s2 w2:=by
 obtain⟨G,hG,hF2,hk2⟩:=h;exact⟨G,hG,hF.trans hF2 hk,fun k hg=>by
  rcases hk2 k hg with h1|h1
  ·exact hk k h1
  ·exact .inr (Nat.le_trans hF.size h1)⟩
end Go.Dv
namespace Go.Proofs.YtmbkaedhllfoeaaGreat
open Go.RowKit Go.Rst Go.Dv Go.Crc Go.Str Go.Pg
def layS(s:Sim)(ep ar:Nat)(ps:List (List UInt8)):Sim:=
 ((writeL s (firstN s.firm.length ar) (chunkL64 ps.flatten) (chunkL64 ps.flatten).length).flush.write ((ep%2:Nat):Int) (Str.headL ep ar ps.length)).flush
theorem flush_firm(s:Sim):s.flush.firm.length=s.firm.length:=by
 unfold Sim.flush;split
 ·show(kept _ _ _ _).length=_;rw[kept_length];rfl
 ·rfl
theorem flush_loose(s:Sim):s.flush.loose.length≤s.loose.length:=by
 unfold Sim.flush;split
 ·exact Nat.zero_le _
 ·exact Nat.le_refl _
theorem layS_firm(s:Sim)(ep ar:Nat)(ps:List (List UInt8)):(layS s ep ar ps).firm.length=s.firm.length:=by
 unfold layS;rw[flush_firm,write_firm,flush_firm,writeL_firm]
theorem flat256:∀{ps:List (List UInt8)},(∀p∈ps,p.length=256)→ps.flatten.length=ps.length*256:=fun h=>flat_length h
theorem pn_one{w:World}{u:Value}{l:List UInt8}(h:RB w u l)(h1:∀q,u.ownBlock=some q→q<w.heap.size)(base:Nat)(h2:∀q,u.ownBlock=some q→base≤q)(hb:base≤w.heap.size):PN (w.alloc (.cells #[u] 46)) base (.slice (some ⟨w.heap.size,0,none⟩) 1 1) [l]:=by
 refine⟨some ⟨w.heap.size,0,none⟩,1,rfl,Nat.le_refl _,by decide,.inr ⟨w.heap.size,0,rfl,hb,by simp,fun j hj=>?_⟩⟩;obtain rfl:j=0:=by simpa using hj
 have hc:=cell_of_row (w.alloc (.cells #[u] 46)) w.heap.size 0 #[u] 46 (0,0) (heap_alloc_new w _);exact⟨u,hc,h.alloc _,fun _ q hq=>⟨h2 q hq,by have:=h1 q hq;simp;omega⟩⟩
theorem lay_st{D:Nat→Prop}{w:World}{v:Value}{s:Sim}(ep ar:Nat)(lv:Value)(rs:List Rw)(ps:List (List UInt8))(h:Dev D w v s)(fi:ep≤1073741824)(har:ar≤1)(hr:RR w lv rs)(hps:buildL rs=some ps)(hne:ps≠ [])(aY:∀p∈ps,p.length=256)
  (hn:64≤s.firm.length) (hfit:ps.length≤aN s.firm.length) (hl:s.loose.length≤50000):
  Calls Tryz.prog 41 #[dv v,.int .i64 (ep:Int),.int .i64 (ar:Int),lv] w fun e w'=>e= .returned (.tuple #[])∧Did D w v (layS s ep ar ps) w':=by
 have HN:=h.ok.n;have H:=qH h;have ke:=qH h.lt;obtain⟨g,rfl⟩:=dev_ptr h;have ha:=aN_le s.firm.length;have hp1:0<ps.length:=List.length_pos_iff.2 hne;have hpl:ps.length≤600:=by omega
 have hfl:=flat256 aY;obtain⟨bl,hbl⟩:∃bl,bl=ps.flatten:=⟨_,rfl⟩
 rw[←hbl] at hfl;have hlen:(chunkL64 bl).length=ps.length*4:=by unfold chunkL64;rw[List.length_map,List.length_range];unfold of64;omega
 have Be:=qH (build_any lv rs w hr);have fI:=qH hbl;have iX:=qH hfl;have mA:=qH hlen;have pH:=qH hps;have fO:=qH hne;have mi:=firstN_le hn har hfit;have sh:=qH mi;clear h hr hps hne hbl hfl hlen ha mi;go_enter Tryz.func41,Tryz.ntmps41;go_wp2_with fail
 go_at_call 74;refine Be.out.mono ?_;rintro e w1⟨p,rfl,hop,hb1⟩;rw[pH.out] at hop⊢;simp only[Option.isSome,Option.getD_some] at hop⊢;obtain⟨A,c,rfl,hc1,hc2⟩:=hop.shape;have bU:=qH hop;have al:=qH hb1;clear hop hb1;go_wp2_with fail
 go_at_call 75;refine(first_any ar har (H.out.below al.out)).mono ?_;rintro e w1'⟨rfl,rfl⟩;obtain⟨qs,yS,zm⟩:=bU.out.pn.ps fO.out;have cD:=cat_flatten yS;rw[←fI.out] at cD;have hcc:=concat_any _ qs w1 zm (by rw[cD,iX.out];omega);rw[cD] at hcc;have sw:=qH hcc;clear hcc yS zm cD;go_wp2_with fail
 go_at_call 78;refine sw.out.mono ?_;rintro e w2⟨v2,rfl,aP,hb2⟩;obtain⟨b2,c2,rfl⟩:=ownsRow_succ (k:=bl.length-1) (by rw[Nat.sub_add_cancel (by have:=iX.out;omega)];exact aP);rw[Nat.sub_add_cancel (by have:=iX.out;omega)] at aP⊢;have Fp:=hb2;have fR:=qH aP;have ae:=qH hb2;clear aP hb2 Fp;go_wp2_with fail
 go_at_call 77;refine(chunk64_any _ w2 rfl).mono ?_;rintro e w3⟨rfl,hw3⟩;have hd3:=dc64_new (RB.own fR.out);rw[←hw3] at hd3;have hb3:Below w2.heap.size w2 w3:=by rw[hw3];exact((Below.refl _ _).alloc (Nat.le_refl _) _).alloc (by simp) _
 have mg:=qH hd3;have aj:=qH hb3;clear hw3 hd3 hb3;go_wp2_with fail
 go_at_call 76;refine(coll64_any b2 0 c2 bl.length w2.heap.size bl w3 rfl mg.out (by have:=iX.out;omega)).mono ?_;rintro e w4⟨sv,us,rfl,ag,lm,hxs,hb4⟩;have nP:=ae.out.trans (((aj.out).trans (hb4.mono aj.out.size)).mono ae.out.size);have hw4:=al.out.trans (nP.mono al.out.size);have gX:w1.heap.size≤b2∧b2<w2.heap.size:=by
  rcases fR.out.2 with ⟨h0,_⟩|⟨g',cap',cur',he',hbb',hg',_⟩
  ·cases h0
  ·injection he' with he' _ _;injection he' with he';injection he' with he' _;subst he';exact⟨hbb',(Array.getElem?_eq_some_iff.1 hg').1⟩
 have jq:=pieces_pn (base:=w1.heap.size) ag (own_base lm (Nat.le_trans ae.out.size aj.out.size)) hxs ((RB.own fR.out).below ((aj.out).trans (hb4.mono aj.out.size))) gX.1 (Nat.lt_of_lt_of_le gX.2 (Nat.le_trans aj.out.size hb4.size));have pS:=qH (jq.base_ al.out.size);have ah:=qH hw4;obtain⟨As,cs,rfl,_⟩:=own_shape lm;clear ag lm hxs hb4 nP hw4 gX jq;have hwr:=wr_any (firstN s.firm.length ar) _ (chunkL64 bl) w.heap.size (H.out.below ah.out) ke.out ah.out.size pS.out (by rw[mA.out];omega) (by have:=sh.out;omega);have i7:=qH hwr;clear hwr;go_wp2_with fail
 go_at_call 39;refine i7.out.mono ?_;rintro e w5⟨rfl,E5,sR,pE,a9⟩;obtain⟨s5,hs5⟩:∃s5,s5=writeL s (firstN s.firm.length ar) (chunkL64 bl) (chunkL64 bl).length:=⟨_,rfl⟩
 rw[←hs5] at sR;have kR:s5.firm.length=s.firm.length:=by rw[hs5,writeL_firm]
 have jv:s5.loose.length≤60000:=by rw[hs5];have:=writeL_loose s (firstN s.firm.length ar) (chunkL64 bl) (chunkL64 bl).length;have h2:=mA.out;omega
 have iP:=qH hs5;have eo:=qH (Fr.trans (Fr.of_below (D:=D) ah.out) pE (fun k hk=> .inl hk));have lh:=qH (fun k hk=>by
  rcases a9 k hk with h1|h1
  ·exact(.inl h1:D k∨w.heap.size≤k)
  ·exact .inr (Nat.le_trans ah.out.size h1))
 have EL:=qH sR;clear hs5 sR pE a9;go_wp2_with fail
 go_at_call 40;refine(flush_any EL.out).mono ?_;rintro e w6⟨rfl,qZ,xo⟩;have pr:=qH (eo.out.trans qZ lh.out);have GB:=qH xo;have lO:s5.flush.loose.length≤60000:=Nat.le_trans (flush_loose s5) jv;clear qZ xo;go_wp2_with fail
 refine(headsec_any ep ar ps.length fi har (by omega) _).mono ?_;rintro e w7⟨u7,rfl,mB,bR⟩;have pP:Below w6.heap.size w6 w7:=((Below.refl w6.heap.size w6).alloc (Nat.le_refl _) _).trans (bR.mono (by simp));obtain⟨hd,nj⟩:∃hd,hd=Str.headL ep ar ps.length:=⟨_,rfl⟩
 rw[←nj] at mB;have F1:∀q,u7.ownBlock=some q→w6.heap.size≤q∧q<w7.heap.size:=fun q hq=>by
  rcases mB.2 with ⟨rfl,_⟩|⟨g7,c7,cur7,rfl,hbb7,pd,_⟩
  ·simp[Value.ownBlock] at hq
  ·simp[Value.ownBlock] at hq
   subst hq;rw[World.size_alloc] at hbb7;exact⟨by omega,(Array.getElem?_eq_some_iff.1 pd).1⟩
 have yH:=RB.own mB;have xx:=pn_one yH (fun q hq=>(F1 q hq).2) w6.heap.size (fun q hq=>(F1 q hq).1) pP.size;obtain⟨A7,c7,rfl,_⟩:=own_shape mB;have ec:=pP.alloc pP.size (.cells #[.slice A7 hd.length c7] 46);have yp:=GB.out.lt;have pe:=GB.out.below ec;have um:=wr_any (ep%2) _ [hd] w6.heap.size pe yp ec.size xx (by simp;omega) (by omega);have hm2:((ep%2:Nat):Int)=(ep:Int)%2:=by omega
 rw[hm2] at um;have Dk:=qH um;have dP:=qH ec;have sV:=qH nj;clear pP nj F1 yH xx ec yp pe um mB bR hm2;go_wp2_with fail
 go_at_call 39;refine Dk.out.mono ?_;rintro e w9⟨rfl,E9,IM,Gw,ex⟩;have ye:∀k,E9 k→D k∨w.heap.size≤k:=fun k hk=>by
  rcases ex k hk with h1|h1
  ·exact lh.out k h1
  ·exact .inr (Nat.le_trans pr.out.size (Nat.le_trans dP.out.size h1))
 have sB:=qH ((pr.out.trans (Fr.of_below (D:=fun _=>False) dP.out) (fun _ h=>h.elim)).trans Gw lh.out);have lM:=qH ye;have CG:=qH IM;clear IM Gw ex ye;go_wp2_with fail
 go_at_call 40;refine(flush_any CG.out).mono ?_;rintro e Gz⟨rfl,Ad,AD⟩;have DZ:=qH (sB.out.trans Ad lM.out);have Eq:=qH AD;clear Ad AD;go_wp2;refine bodyPost_end (results_none rfl _ _ _) rfl ?_;refine⟨rfl,E9,?_,DZ.out,lM.out⟩;have he:layS s ep ar ps=(writeL s5.flush (ep%2) [hd] [hd].length).flush:=by
  unfold layS;rw[←fI.out,←iP.out,←sV.out];rfl
 rw[he];exact Eq.out
def formatS(s:Sim):Sim:=layS (writeL s 0 (List.replicate (2+jN s.firm.length) []) (2+jN s.firm.length)).flush 1 0 ((buildL []).getD [])
theorem pn_nils{w:World}{base g n:Nat}(h:w.ownsRow base 46 1 (.slice (some ⟨g,0,none⟩) n n) n (List.replicate n (.slice none 0 0)))(b:Nat)(hb:b≤g):PN w b (.slice (some ⟨g,0,none⟩) n n) (List.replicate n []):=by
 rcases h.2 with ⟨h0,_⟩|⟨g',cap,cur,he,hbg,hg,hnc,hcm,hcs,ht⟩
 ·cases h0
 ·injection he with he _ hcap
  injection he with he;injection he with he _;subst he;refine⟨some ⟨g,0,none⟩,n,by rw[List.length_replicate],by rw[List.length_replicate];exact Nat.le_refl _,by omega,.inr ⟨g,0,rfl,hb,(Array.getElem?_eq_some_iff.1 hg).1,fun j hj=>?_⟩⟩;rw[List.length_replicate] at hj;have hc:=h.cells (g:=g) rfl j (.slice none 0 0) (by simp[hj]);rw[Addr.add_lit] at hc;exact⟨_,hc,by rw[List.getElem_replicate];exact RB.nil_ w,fun hne=>absurd (List.getElem_replicate ..) hne⟩
theorem format_small{D:Nat→Prop}{w:World}{v:Value}{s:Sim}(h:Dev D w v s)(hn:s.firm.length<64):
  Calls Tryz.prog 12 #[v] w fun e w'=>e= .returned (.int .u16 20)∧w=w':=by
 have H:=qH h;obtain⟨g,rfl⟩:=dev_ptr h;have hn':(s.firm.length:Int)<64:=by omega
 clear h;go_enter Tryz.func12,Tryz.ntmps12;go_wp2_with fail
 go_at_call 38;refine(len_any H.out).mono ?_;rintro e w1⟨rfl,rfl⟩;go_wp2;go_ret;exact⟨rfl,rfl⟩
theorem format_st{D:Nat→Prop}{w:World}{v:Value}{s:Sim}(h:Dev D w v s)(hn:64≤s.firm.length)(hl:s.loose.length≤40000):
  Calls Tryz.prog 12 #[v] w fun e w'=>e= .returned (.int .u16 0)∧Did D w v (formatS s) w':=by
 obtain⟨iU,hi,hz0,hz1,hz2⟩:=info_parts info46;have HI:=qH hi;have tc:=qH hz0;have l9:=qH hz1;have j4:=qH hz2;clear hi hz0 hz1 hz2;have HN:=h.ok.n;have H:=qH h;have ke:=qH h.lt;obtain⟨g,rfl⟩:=dev_ptr h;obtain⟨n,hne⟩:∃n,n=s.firm.length:=⟨_,rfl⟩
 have hlen:=fun X (hX:Dev D X (.pointer (some ⟨g,0,none⟩)) s)=>len_any hX
 rw[←hne] at hlen hn HN;have HL:=qH hlen;have ak:=fun X=>layout_any (n:Int) (by omega) (by omega) X
 rw[layJ_nat,layA_nat] at ak;have HY:=qH ak;have Id:=jN_le n;have s4:=aN_pos hn;obtain⟨J,hJ⟩:∃J,J=jN n:=⟨_,rfl⟩
 rw[←hJ] at HY Id s4;have HJ:=qH hJ;have fO:=qH hne;have Jf:J≤1024:=by omega
 have hnn:¬(n:Int)<64:=by omega
 clear h hlen ak hJ hne;go_enter Tryz.func12,Tryz.ntmps12;go_wp2_with (first|(go_at_call 38;refine(HL.out _ H.out).mono ?_;rintro e w1 ⟨rfl,rfl⟩)|(go_at_call 29;refine(HY.out _).mono ?_;rintro e w1 ⟨rfl,rfl⟩)|(refine wpList_make_full _ rfl (.tmp 17) (.tmp 17) 26 rfl 0 46 iU (.slice none 0 0) 1 Tryz.underlying26 HI.out tc.out l9.out .i64 .i64 (2+(J:Int)) (2+(J:Int)) (2+J) rfl rfl (by omega) (by omega) (by rw[j4.out];omega) (by unfold maxLen;omega) (Nat.zero_le _) ?_))
 intro w2 hown2 hgrow2;have hmk:(madeCells #[Value.slice none 0 0] (2+J)).toList=List.replicate (2+J) (.slice none 0 0):=toList_madeCells_one _ _;rw[hmk] at hown2;have hb2:Below w.heap.size w w2:=(Below.refl _ _).grown hgrow2 (Nat.le_refl _) (fun z hz=>by cases hz);have jq:=pn_nils hown2 w.heap.size (Nat.le_refl _);have hsl:s.loose.length+(List.replicate (2+J) ([]:List UInt8)).length<100000:=by rw[List.length_replicate];omega
 have hwr:=wr_any 0 _ _ w.heap.size (H.out.below hb2) ke.out hb2.size jq hsl (by omega);rw[List.length_replicate] at hwr;have i7:=qH hwr;have ae:=qH hb2;clear hwr jq hown2 hgrow2 hmk hb2 hsl;go_wp2_with fail
 go_at_call 39;refine i7.out.mono ?_;rintro e w5⟨rfl,E5,sR,pE,a9⟩;obtain⟨s5,hs5⟩:∃s5,s5=writeL s 0 (List.replicate (2+J) []) (2+J):=⟨_,rfl⟩
 rw[←hs5] at sR;have kR:s5.firm.length=n:=by rw[hs5,writeL_firm];exact fO.out.symm
 have jv:s5.loose.length≤50000:=by rw[hs5];have:=writeL_loose s 0 (List.replicate (2+J) []) (2+J);omega
 have iP:=qH hs5;have eo:=qH (Fr.trans (Fr.of_below (D:=D) ae.out) pE (fun k hk=> .inl hk));have lh:=qH (fun k hk=>by
  rcases a9 k hk with h1|h1
  ·exact(.inl h1:D k∨w.heap.size≤k)
  ·exact .inr (Nat.le_trans ae.out.size h1))
 have EL:=qH sR;have Dp:=qH kR;clear hs5 sR pE a9 kR;go_wp2_with fail
 go_at_call 40;refine(flush_any EL.out).mono ?_;rintro e w6⟨rfl,qZ,xo⟩;have pr:=qH (eo.out.trans qZ lh.out);have lO:s5.flush.loose.length≤50000:=Nat.le_trans (flush_loose s5) jv;obtain⟨pg,ia⟩:=build_nil;have ms:s5.flush.firm.length=n:=by rw[flush_firm];exact Dp.out
 have ak:=lay_st 1 0 (.slice none 0 0) [] [pg] xo (by omega) (by omega) (rr_nil _) ia (by simp) (built_256 ia) (by rw[ms];exact hn) (by rw[ms];simp;omega) lO;have aZ:=qH ak;have vp:=qH ia;clear qZ xo ak ia ms;go_wp2_with fail
 go_at_call 41;refine aZ.out.mono ?_;rintro e w7⟨rfl,mV⟩;have hd2:=Did.trans_ pr.out lh.out mV;have he:formatS s=layS s5.flush 1 0 [pg]:=by
  unfold formatS;rw[←fO.out,←HJ.out,←iP.out,vp.out];rfl
 rw[←he] at hd2;have Bw:=qH hd2;clear mV hd2 he;go_wp2;go_ret;exact⟨rfl,Bw.out⟩
structure Ss where
 d:Sim
 rows:List Rw
 ep:Nat
 ar:Nat
 us:Nat
 fr:Nat
abbrev Ss.n(x:Ss):Nat:=x.d.firm.length
def sc(dg:Nat)(rv:Value)(x:Ss):Array Value:=#[dv (.pointer (some ⟨dg,0,none⟩)),rv,.int .i64 (x.ep:Int),.int .i64 (x.ar:Int),.int .i64 (x.us:Int),.int .i64 (x.fr:Int)]
structure GoodX (x:Ss):Prop where
 n:64≤x.n
 ok:OK x.d
 fit:∃ps,buildL x.rows=some ps∧ps.length≤aN x.n
 ep:x.ep≤1073741824
 ar:x.ar≤1
 us:x.us≤jN x.n
 fr:x.fr≤x.us
 lo:x.d.loose.length≤8000
 calm:x.d.goes=true→x.d.loose= []
def RO(R:Nat→Prop)(w:World)(rv:Value)(rs:List Rw):Prop:=∀w':World,w.heap.size≤w'.heap.size→(∀k,R k→w'.heap[k]? =w.heap[k]?)→RR w' rv rs
structure StoA (D R M:Nat→Prop) (g dg:Nat) (rv:Value) (w:World) (x:Ss):Prop where
 dev:Dev D w (.pointer (some ⟨dg,0,none⟩)) x.d
 hg:¬D g
 hR:∀k,R k→¬D k∧k≠g∧k<w.heap.size
 hM:∀k,M k↔(D k∨k=g∨R k)
 blk:Dv.Blk w g 107 (sc dg rv x)
 rows:RO R w rv x.rows
def Sto(dg:Nat)(M:Nat→Prop)(w:World)(sv:Value)(x:Ss):Prop:=
 ∃(D R:Nat→Prop) (g:Nat) (rv:Value),sv= .pointer (some ⟨g,0,none⟩)∧StoA D R M g dg rv w x
theorem RO.keep{R:Nat→Prop}{w w':World}{rv:Value}{rs:List Rw}(h:RO R w rv rs)(hs:w.heap.size≤w'.heap.size)(hk:∀k,R k→w'.heap[k]? =w.heap[k]?):RO R w' rv rs:=
 fun w2 h2 hk2=>h w2 (Nat.le_trans hs h2) (fun k hr=>(hk2 k hr).trans (hk k hr))
theorem RO.rr{R:Nat→Prop}{w:World}{rv:Value}{rs:List Rw}(h:RO R w rv rs):RR w rv rs:=h w (Nat.le_refl _) (fun _ _=>rfl)
def SDid(dg:Nat)(M:Nat→Prop)(w:World)(sv:Value)(x:Ss)(w':World):Prop:=∃M':Nat→Prop,Sto dg M' w' sv x∧Fr M w w'∧∀k,M' k→M k∨w.heap.size≤k
section
variable {dg:Nat} {M:Nat→Prop} {w w':World} {sv:Value} {x:Ss}
theorem StoA.lt{D R:Nat→Prop}{g:Nat}{rv:Value}(h:StoA D R M g dg rv w x):∀k,M k→k<w.heap.size:=by
 intro k hk;rcases(h.hM k).1 hk with h1|rfl|h1
 ·exact h.dev.lt k h1
 ·exact h.blk.lt
 ·exact(h.hR k h1).2.2
theorem Sto.lt(h:Sto dg M w sv x):∀k,M k→k<w.heap.size:=by
 obtain⟨D,R,g,rv,_,h⟩:=h;exact h.lt
theorem StoA.fr{D R:Nat→Prop}{g:Nat}{rv:Value}{E:Nat→Prop}(h:StoA D R M g dg rv w x)(hf:Fr E w w')(hE:∀k,E k→¬M k):StoA D R M g dg rv w' x:=by
 have hk:∀k,k<w.heap.size→M k→w'.heap[k]? =w.heap[k]? :=fun k hk hm=>hf.block k hk (fun he=>hE k he hm)
 exact⟨h.dev.fr (E:=E) hf (fun k hk hD=>hE k hk ((h.hM k).2 (.inl hD))),h.hg,fun k hr=>⟨(h.hR k hr).1,(h.hR k hr).2.1,Nat.lt_of_lt_of_le (h.hR k hr).2.2 hf.size⟩,h.hM,h.blk.same (hk g h.blk.lt ((h.hM g).2 (.inr (.inl rfl)))),h.rows.keep hf.size (fun k hr=>hk k (h.hR k hr).2.2 ((h.hM k).2 (.inr (.inr hr))))⟩
theorem Sto.fr{E:Nat→Prop}(h:Sto dg M w sv x)(hf:Fr E w w')(hE:∀k,E k→¬M k):Sto dg M w' sv x:=by
 obtain⟨D,R,g,rv,h0,h⟩:=h;exact⟨D,R,g,rv,h0,h.fr hf hE⟩
theorem StoA.below{D R:Nat→Prop}{g:Nat}{rv:Value}(h:StoA D R M g dg rv w x)(hb:Below w.heap.size w w'):StoA D R M g dg rv w' x:=h.fr (E:=fun _=>False) (Fr.of_below hb) (fun _ h=>h.elim)
theorem Sto.below(h:Sto dg M w sv x)(hb:Below w.heap.size w w'):Sto dg M w' sv x:=h.fr (E:=fun _=>False) (Fr.of_below hb) (fun _ h=>h.elim)
theorem SDid.same(h:Sto dg M w' sv x)(hf:Fr M w w'):SDid dg M w sv x w':=⟨M,h,hf,fun _ h=> .inl h⟩
end
def ckS(x:Ss):Ss:={d:=layS x.d (x.ep+1) (1-x.ar) ((buildL x.rows).getD []),rows:=x.rows,ep:=x.ep+1,ar:=1-x.ar,us:=0,fr:=0}
theorem or_ro{w:World}{base top:Nat}{rv:Value}{rs:List Rw}(h:OR 5 78 w base rv rs)(ht:w.heap.size≤top):RO (fun k=>base≤k∧k<top) w rv rs:=fun w' hs hk=>by
 obtain⟨us,hu,ho,hf⟩:=h;have hb:∀k,base≤k→k<w.heap.size→w'.heap[k]? =w.heap[k]? :=fun k h1 h2=>hk k ⟨h1,by omega⟩
 have ho':w'.ownsRow base 78 2 rv us.length (rowCells us):=own_same ho (fun k hk=>by
  rcases ho.2 with ⟨rfl,_⟩|⟨g,cap,cur,rfl,hbg,hg,_⟩
  ·simp[Value.ownBlock] at hk
  ·obtain rfl:g=k:=by simpa [Value.ownBlock] using hk
   exact hb g hbg (Array.getElem?_eq_some_iff.1 hg).1)
 exact(show OR 5 78 w' base rv rs from⟨us,hu,ho',fun x hx=>by
  rcases hf x hx with h1|⟨g,c,cur,fr,h1,h2,h3,h4⟩
  ·exact .inl h1
  ·exact .inr ⟨g,c,cur,fr,h1,h2,(hb g h2 (Array.getElem?_eq_some_iff.1 h3).1).trans h3,h4⟩⟩).rr
theorem rr_of{D R M:Nat→Prop}{g dg:Nat}{rv:Value}{w w':World}{x:Ss}(h:StoA D R M g dg rv w x){E:Nat→Prop}(hf:Fr E w w')(hE:∀k,E k→¬R k):RR w' rv x.rows:=
 h.rows w' hf.size (fun k hr=>hf.block k (h.hR k hr).2.2 (fun he=>hE k he hr))
theorem used_any{dg:Nat}{M:Nat→Prop}{w:World}{sv:Value}{x:Ss}(h:Sto dg M w sv x):
  Calls Tryz.prog 59 #[sv] w fun e w'=>e= .returned (.int .i64 (x.us:Int))∧w=w':=by
 obtain⟨D,R,g,rv,rfl,h⟩:=h;have c4:=h.blk.cell 4;unfold sc at c4;simp at c4;clear h;go_enter Tryz.func59,Tryz.ntmps59;go_wp2;go_ret;exact⟨rfl,rfl⟩
theorem epoch_any{dg:Nat}{M:Nat→Prop}{w:World}{sv:Value}{x:Ss}(h:Sto dg M w sv x):
  Calls Tryz.prog 36 #[sv] w fun e w'=>e= .returned (.int .i64 (x.ep:Int))∧w=w':=by
 obtain⟨D,R,g,rv,rfl,h⟩:=h;have c2:=h.blk.cell 2;unfold sc at c2;simp at c2;clear h;go_enter Tryz.func36,Tryz.ntmps36;go_wp2;go_ret;exact⟨rfl,rfl⟩
theorem ck_over{dg:Nat}{M:Nat→Prop}{w:World}{sv:Value}{x:Ss}(h:Sto dg M w sv x)(he:x.ep=1073741824):
  Calls Tryz.prog 20 #[sv] w fun e w'=>e= .returned (.int .u16 32)∧w=w':=by
 obtain⟨D,R,g,rv,rfl,h⟩:=h;have c2:=h.blk.cell 2;unfold sc at c2;rw[he] at c2;simp at c2;clear h;go_enter Tryz.func20,Tryz.ntmps20;go_wp2;go_ret;exact⟨rfl,rfl⟩
theorem ck_any{dg:Nat}{M:Nat→Prop}{w:World}{sv:Value}{x:Ss}(h:Sto dg M w sv x)(hG:GoodX x)(he:x.ep<1073741824):
  Calls Tryz.prog 20 #[sv] w fun e w'=>e= .returned (.int .u16 0)∧SDid dg M w sv (ckS x) w':=by
 obtain⟨D,R,g,rv,rfl,h⟩:=h;obtain⟨ps,hps,hpl⟩:=hG.fit;have H:=qH h;have c0:=h.blk.cell 0;have c1:=h.blk.cell 1;have c2:=h.blk.cell 2;have c3:=h.blk.cell 3;have c4:=h.blk.cell 4;have c5:=h.blk.cell 5;have f2:=h.blk.frozen 2;have f3:=h.blk.frozen 3;unfold sc at c0 c1 c2 c3 c4 c5;simp at c0 c1 c2 c3 c4 c5;obtain⟨Ar,cr,ip,qz,pC⟩:=rr_shape h.rows.rr;have ir:x.ep≤1073741823:=by omega
 have M0:=hG.ar;obtain⟨E1,pm⟩:∃E1,E1=x.ep+1:=⟨_,rfl⟩
 obtain⟨A1,cy⟩:∃A1,A1=1-x.ar:=⟨_,rfl⟩
 have Ix:IntKind.i64.wrap ((x.ep:Int)+1)=(E1:Int):=by rw[IntKind.wrap_i64];omega
 have M5:IntKind.i64.wrap (1-(x.ar:Int))=(A1:Int):=by rw[IntKind.wrap_i64];omega
 have FG:¬(x.ep:Int)=1073741824:=by omega
 have Il:((x.ep:Int)==1073741824)=false:=by rw[beq_eq_false_iff_ne];omega
 let W2:=(w.setCell ⟨g,2,none⟩ (.int .i64 (E1:Int))).setCell ⟨g,3,none⟩ (.int .i64 (A1:Int))
 have ax:Fr (fun j=>j=g) w W2:=Fr.setCell (p:=⟨g,3,none⟩) (Fr.setCell (p:=⟨g,2,none⟩) (Fr.refl (fun j=>j=g) w) (.inl rfl) _) (.inl rfl) _;have nX:Dev D W2 (.pointer (some ⟨dg,0,none⟩)) x.d:=h.dev.fr ax (by rintro k rfl;exact h.hg);have rS:Dv.Blk W2 g 107 #[dv (.pointer (some ⟨dg,0,none⟩)),rv,.int .i64 (E1:Int),.int .i64 (A1:Int),.int .i64 (x.us:Int),.int .i64 (x.fr:Int)]:=(h.blk.set_ 2 _).set_ 3 _;have AO:RR W2.drew rv x.rows:=rr_of h ax.drew (by rintro k rfl hr;exact(h.hR k hr).2.1 rfl);have ak:=lay_st (w:=W2.drew) E1 A1 rv x.rows ps (nX.below (Below.refl _ _).drew) (by omega) (by omega) AO hps (built_ne hps) (built_256 hps) hG.n hpl (by have:=hG.lo;omega);have aZ:=qH ak;have ae:=qH rS;have cZ:=qH ax;have Bw:=qH nX;have yA:=qH pm;have ga:=qH cy;have pH:=qH hps;have BS:=qH (show W2=(w.setCell ⟨g,2,none⟩ (.int .i64 (E1:Int))).setCell ⟨g,3,none⟩ (.int .i64 (A1:Int)) from rfl)
 clear_value W2
 subst ip;clear h hps hpl ax nX rS AO ak pm cy hG;go_enter Tryz.func20,Tryz.ntmps20;go_wp2;rw[←BS.out];refine wp_region_held_drew (S:=fun X=>Dv.Blk X g 107 #[dv (.pointer (some ⟨dg,0,none⟩)),.slice Ar x.rows.length cr,.int .i64 (E1:Int),.int .i64 (A1:Int),.int .i64 (x.us:Int),.int .i64 (x.fr:Int)]) (by kernel_rfl) ae.out (fun hHeld=>?_);refine tkC 0 ?_;refine tkC 1 ?_;refine tkC 2 ?_;refine tkA 3 (v:=?_) ?_ ?_;rotate_left
 ·intro X hSw;have z0:=hSw.cell 0;have z1:=hSw.cell 1;have z2:=hSw.cell 2;have z3:=hSw.cell 3;simp at z0 z1 z2 z3;go_simp;try (with_reducible rfl)
 try simp only[Act.put,zA,zB,zC]
 refine tkC 4 ?_;refine tkC 5 ?_;refine tkC 6 ?_;refine tkA 7 (v:=?_) ?_ ?_;rotate_left
 ·intro X hSw;have z0:=hSw.cell 0;have z1:=hSw.cell 1;have z2:=hSw.cell 2;have z3:=hSw.cell 3;simp at z0 z1 z2 z3;go_simp;try (with_reducible rfl)
 try simp only[Act.put,zA,zB,zC]
 refine tkC 8 ?_;refine tkC 9 ?_;refine tkC 10 ?_;refine tkA 11 (v:=?_) ?_ ?_;rotate_left
 ·intro X hSw;have z0:=hSw.cell 0;have z1:=hSw.cell 1;have z2:=hSw.cell 2;have z3:=hSw.cell 3;simp at z0 z1 z2 z3;go_simp;try (with_reducible rfl)
 try simp only[Act.put,zA,zB,zC]
 refine tkC 12 ?_;refine tkC 13 ?_;refine tkC 14 ?_;refine tkA 15 (v:=?_) ?_ ?_;rotate_left
 ·intro X hSw;have z0:=hSw.cell 0;have z1:=hSw.cell 1;have z2:=hSw.cell 2;have z3:=hSw.cell 3;simp at z0 z1 z2 z3;go_simp;try (with_reducible rfl)
 try simp only[Act.put,zA,zB,zC]
 refine rdA (rs:= [16]) ?_;refine arC (fun K hK=>?_);go_simp;refine aZ.out.mono ?_;rintro e w3⟨rfl,E3,GC,oQ,hk3⟩;have aj:=qH (show Dv.Blk w3 g 107 #[dv (.pointer (some ⟨dg,0,none⟩)),.slice Ar x.rows.length cr,.int .i64 (E1:Int),.int .i64 (A1:Int),.int .i64 (x.us:Int),.int .i64 (x.fr:Int)] from ae.out.same (oQ.block g ae.out.lt H.out.hg));have Jk:=qH GC;have iO:=qH (show Fr D W2 w3 from(Fr.refl D W2).drew.trans oQ (fun _ h=> .inl h));have C8:=qH (show ∀k,E3 k→D k∨W2.heap.size≤k from hk3);clear GC oQ hk3;try (go_wp2_with fail)
 have ac:=aj.out;refine hK.out _ _ ?_ (fun _=>?_)
 ·exact ac
 clear hK K hHeld;have hHeld:=ac;clear ac;try simp only[Act.put,zA,zB,zC]
 refine wpAnyH_done (by kernel_rfl) ?_ _;clear hHeld c0 c1 c2 c3 c4 c5 f2 f3;have p4:=aj.out.cell 4;have p5:=aj.out.cell 5;have f4:=aj.out.frozen 4;have f5:=aj.out.frozen 5;simp at p4 p5;go_wp2;go_ret;refine⟨rfl,fun k=>E3 k∨k=g∨R k,⟨E3,R,g,.slice Ar x.rows.length cr,rfl,?_⟩,?_,?_⟩
 ·have xH:g<W2.heap.size:=ae.out.lt
  have hsz:W2.heap.size=w.heap.size:=by rw[BS.out];simp[World.setCell]
  have l8:¬E3 g:=fun hh=>by rcases C8.out g hh with h1|h1;exact H.out.hg h1;omega
  have tn:Fr (fun j=>j=g) w3 ((w3.setCell ⟨g,4,none⟩ (.int .i64 0)).setCell ⟨g,5,none⟩ (.int .i64 0)):=Fr.setCell (p:=⟨g,5,none⟩) (Fr.setCell (p:=⟨g,4,none⟩) (Fr.refl (fun j=>j=g) w3) (.inl rfl) _) (.inl rfl) _;have cP:ckS x=⟨layS x.d E1 A1 ps,x.rows,E1,A1,0,0⟩:=by unfold ckS;rw[pH.out,yA.out,ga.out];rfl
  rw[cP];refine⟨Jk.out.fr tn (by rintro k rfl;exact l8),l8,fun k hr=>⟨fun hh=>?_,(H.out.hR k hr).2.1,?_⟩,fun k=>Iff.rfl,(aj.out.set_ 4 _).set_ 5 _,H.out.rows.keep ?_ (fun k hr=>?_)⟩
  ·rcases C8.out k hh with h1|h1
   ·exact(H.out.hR k hr).1 h1
   ·have:=(H.out.hR k hr).2.2;omega
  ·have h1:=(H.out.hR k hr).2.2
   have h2:=iO.out.size;have h3:=tn.size;omega
  ·have h2:=iO.out.size
   have h3:=tn.size;omega
  ·have h1:=(H.out.hR k hr).2.2
   have e1:=cZ.out.block k h1 (by intro hkg;exact(H.out.hR _ hr).2.1 hkg);have e2:=iO.out.block k (by omega) (H.out.hR k hr).1;have e3:=tn.block k (by have:=iO.out.size;omega) (by intro hkg;exact(H.out.hR _ hr).2.1 hkg);exact e3.trans (e2.trans e1)
 ·have pb:∀k,k=g→M k:=fun k hk=>(H.out.hM k).2 (.inr (.inl hk))
  have hm2:∀k,D k→M k:=fun k hk=>(H.out.hM k).2 (.inl hk)
  exact Fr.setCell (p:=⟨g,5,none⟩) (Fr.setCell (p:=⟨g,4,none⟩) ((cZ.out.mono pb).trans iO.out (fun k hk=> .inl (hm2 k hk))) (.inl (pb g rfl)) _) (.inl (pb g rfl)) _
 ·have hsz:W2.heap.size=w.heap.size:=by rw[BS.out];simp[World.setCell]
  rintro k (h1|h1|h1)
  ·rcases C8.out k h1 with h2|h2
   ·exact .inl ((H.out.hM k).2 (.inl h2))
   ·exact .inr (by omega)
  ·exact .inl ((H.out.hM k).2 (.inr (.inl h1)))
  ·exact .inl ((H.out.hM k).2 (.inr (.inr h1)))
def runL(a:Nat)(b:Nat→List UInt8)(m:Nat):List Wr:=(List.range m).map fun i=>(a+i,b i)
theorem runL_len(a:Nat)(b:Nat→List UInt8)(m:Nat):(runL a b m).length=m:=by simp[runL]
theorem runL_succ(a:Nat)(b:Nat→List UInt8)(m:Nat):runL a b (m+1)=runL a b m++ [(a+m,b m)]:=by simp[runL,List.range_succ]
theorem runL_wat{a:Nat}{b:Nat→List UInt8}{m j:Nat}(h:j<m):wat (runL a b m) j=(a+j,b j):=by
 rw[wat_in (by rw[runL_len];exact h)];simp[runL]
def sec(F:List (List UInt8))(i:Nat):List UInt8:=F.getD i []
theorem sec_of{F:List (List UInt8)}{i:Nat}(h:i<F.length):F[i]? =some (sec F i):=by
 unfold sec;rw[List.getD_eq_getElem?_getD,List.getElem?_eq_getElem h];rfl
theorem sec_get{F F':List (List UInt8)}{i:Nat}(h:F[i]? =F'[i]?):sec F i=sec F' i:=by
 unfold sec;rw[List.getD_eq_getElem?_getD,List.getD_eq_getElem?_getD,h]
theorem sec_some{F:List (List UInt8)}{i:Nat}{b:List UInt8}(h:F[i]? =some b):sec F i=b:=by
 unfold sec;rw[List.getD_eq_getElem?_getD,h];rfl
theorem sec_len{F:List (List UInt8)}(h:∀x∈F,x.length=64){i:Nat}(hi:i<F.length):(sec F i).length=64:=by
 have:=sec_of hi;exact h _ (List.mem_of_getElem? this)
theorem kept_run{F:List (List UInt8)}{a m:Nat}{b:Nat→List UInt8}{K:List Bool}:∀k,k≤m→∀i,(kept F (runL a b m) K k)[i]? =if a≤i∧i<a+k∧K.getD (i-a) false=true∧i<F.length then some (b (i-a)) else F[i]?
 |0,_,i=>by
  rw[kept,if_neg (by omega)]
 |k+1,h,i=>by
  have ih:=kept_run (F:=F) (a:=a) (m:=m) (b:=b) (K:=K) k (by omega) i;rw[kept];by_cases hK:K.getD k false=true
  ·rw[if_pos hK,runL_wat (by omega),List.getElem?_set,kept_length]
   by_cases hi:a+k=i
   ·subst hi
    have e:a+k-a=k:=by omega
    simp only[if_true,e];by_cases hF:a+k<F.length
    ·rw[if_pos hF,if_pos ⟨by omega,by omega,hK,hF⟩]
    ·rw[if_neg hF,if_neg (fun h=>hF h.2.2.2),List.getElem?_eq_none (by omega)]
   ·rw[if_neg hi,ih]
    by_cases hc:a≤i∧i<a+k∧K.getD (i-a) false=true∧i<F.length
    ·rw[if_pos hc,if_pos ⟨hc.1,by omega,hc.2.2⟩]
    ·rw[if_neg hc,if_neg (fun h=>hc ⟨h.1,by omega,h.2.2⟩)]
  ·rw[if_neg hK,ih]
   by_cases hc:a≤i∧i<a+k∧K.getD (i-a) false=true∧i<F.length
   ·rw[if_pos hc,if_pos ⟨hc.1,by omega,hc.2.2⟩]
   ·rw[if_neg hc,if_neg (fun h=>hc ⟨h.1,by
     have h1:=h.2.1;by_cases hi:i=a+k
     ·subst hi
      rw[show a+k-a=k by omega] at h;exact(hK h.2.2.1).elim
     ·omega,h.2.2⟩)]
theorem write_dead{s:Sim}(h:s.goes=false)(i:Int)(b:List UInt8):s.write i b=s:=by
 unfold Sim.write;rw[h,Bool.and_false,if_neg (by decide)]
theorem flush_dead{s:Sim}(h:s.goes=false):s.flush=s:=by
 unfold Sim.flush;rw[h,if_neg (by decide)]
theorem writeL_dead{s:Sim}(h:s.goes=false)(a:Nat)(ps:List (List UInt8)):∀k,writeL s a ps k=s
 |0=>rfl
 |k+1=>by rw[writeL,writeL_dead h a ps k,write_dead h]
theorem layS_dead{s:Sim}(h:s.goes=false)(ep ar:Nat)(ps:List (List UInt8)):layS s ep ar ps=s:=by
 unfold layS;rw[writeL_dead h,flush_dead h,write_dead h,flush_dead h]
theorem write_live{s:Sim}{i:Nat}{b:List UInt8}(hi:i<s.firm.length)(hb:b.length≤64)(h:s.goes=true):s.write (i:Int) b=s.put i b:=by
 unfold Sim.write;have e:s.has (i:Int)=true:=by rw[Sim.has_iff];omega
 rw[e,h,decide_eq_true hb,if_pos (by decide)];rfl
theorem flush_live{s:Sim}(h:s.goes=true):s.flush.firm=kept s.firm s.loose (List.replicate s.loose.length true) s.loose.length∧s.flush.loose= []:=by
 unfold Sim.flush;rw[h,if_pos (by rfl)];exact⟨rfl,rfl⟩
theorem writeL_run{s:Sim}{a:Nat}{ps:List (List UInt8)}(h64:∀p∈ps,p.length≤64):∀k,k≤ps.length→a+k≤s.firm.length→
  ∃j,j≤k∧(writeL s a ps k).loose=s.loose++runL a (fun i=>pad (ps.getD i [])) j∧(j<k→(writeL s a ps k).goes=false)
 |0,_,_=>⟨0,Nat.le_refl _,by simp[writeL,runL],fun h=>absurd h (by omega)⟩
 |k+1,hk,ha=>by
  obtain⟨j,hj,hl,hg⟩:=writeL_run (s:=s) (a:=a) h64 k (by omega) (by omega);rw[writeL];by_cases hgo:(writeL s a ps k).goes=true
  ·have hjk:j=k:=by
    rcases Nat.lt_or_ge j k with h|h
    ·rw[hg h] at hgo;cases hgo
    ·omega
   subst hjk;have hb:(ps.getD j []).length≤64:=by
    rw[List.getD_eq_getElem?_getD,List.getElem?_eq_getElem (by omega)];exact h64 _ (List.getElem_mem _)
   have e:((a+j:Nat):Int)=((a+j:Nat):Int):=rfl;rw[write_live (i:=a+j) (by rw[writeL_firm];omega) hb hgo];refine⟨j+1,Nat.le_refl _,?_,fun h=>absurd h (by omega)⟩;show(writeL s a ps j).loose++ [(a+j,pad (ps.getD j []))]=_;rw[hl,runL_succ,List.append_assoc]
  ·have xX:(writeL s a ps k).goes=false:=by simpa using hgo
   rw[write_dead xX];exact⟨j,by omega,hl,fun _=>xX⟩
theorem pad_same{b:List UInt8}(h:b.length=64):pad b=b:=by unfold pad;rw[h];simp
theorem writeL_kept{s:Sim}{a:Nat}{ps:List (List UInt8)}(hl:s.loose= [])(h64:∀p∈ps,p.length=64)(ha:a+ps.length≤s.firm.length):
  ∃j,j≤ps.length∧(j<ps.length→(writeL s a ps ps.length).goes=false)∧(writeL s a ps ps.length).loose.length=j∧
   ∀K i,(kept s.firm (writeL s a ps ps.length).loose K j)[i]? =if a≤i∧i<a+j∧K.getD (i-a) false=true∧i<s.firm.length then some (sec ps (i-a)) else s.firm[i]? :=by
 obtain⟨j,hj,h1,h2⟩:=writeL_run (s:=s) (a:=a) (fun p hp=>Nat.le_of_eq (h64 p hp)) ps.length (Nat.le_refl _) ha;rw[hl,List.nil_append] at h1;refine⟨j,hj,h2,by rw[h1,runL_len],fun K i=>?_⟩;rw[h1,kept_run j (Nat.le_refl _) i];by_cases hc:a≤i∧i<a+j∧K.getD (i-a) false=true∧i<s.firm.length
 ·rw[if_pos hc,if_pos hc]
  show some (pad (sec ps (i-a)))=_;rw[pad_same (sec_len h64 (by omega))]
 ·rw[if_neg hc,if_neg hc]
theorem trues_get{n i:Nat}(h:i<n):(List.replicate n true).getD i false=true:=by
 rw[List.getD_eq_getElem?_getD,List.getElem?_replicate,if_pos h];rfl
theorem writeL_flush{s:Sim}{a:Nat}{ps:List (List UInt8)}(hl:s.loose= [])(h64:∀p∈ps,p.length=64)(ha:a+ps.length≤s.firm.length)(hg:(writeL s a ps ps.length).goes=true):
  (writeL s a ps ps.length).flush.loose= []∧∀i,(writeL s a ps ps.length).flush.firm[i]? =if a≤i∧i<a+ps.length then some (sec ps (i-a)) else s.firm[i]? :=by
 obtain⟨j,hj,h1,h2,h3⟩:=writeL_kept hl h64 ha;have Lw:j=ps.length:=by
  rcases Nat.lt_or_ge j ps.length with h|h
  ·rw[h1 h] at hg;cases hg
  ·omega
 obtain⟨f1,f2⟩:=flush_live hg;refine⟨f2,fun i=>?_⟩;rw[f1,h2,writeL_firm,h3,Lw];by_cases hc:a≤i∧i<a+ps.length
 ·rw[if_pos ⟨hc.1,hc.2,trues_get (by omega),by omega⟩,if_pos hc]
 ·rw[if_neg (fun h=>hc ⟨h.1,h.2.1⟩),if_neg hc]
theorem goes_none{s:Sim}(h:s.fuse=none):s.goes=true:=by unfold Sim.goes;rw[h];rfl
theorem write_fuse{s:Sim}(h:s.fuse=none)(i:Int)(b:List UInt8):(s.write i b).fuse=none:=by
 unfold Sim.write;split
 ·show s.fuse.map _=none;rw[h];rfl
 ·exact h
theorem flush_fuse{s:Sim}(h:s.fuse=none):s.flush.fuse=none:=by
 unfold Sim.flush;split
 ·show s.fuse.map _=none;rw[h];rfl
 ·exact h
theorem writeL_fuse{s:Sim}(h:s.fuse=none)(a:Nat)(ps:List (List UInt8)):∀k,(writeL s a ps k).fuse=none
 |0=>h
 |k+1=>write_fuse (writeL_fuse h a ps k) _ _
theorem layS_fuse{s:Sim}(h:s.fuse=none)(ep ar:Nat)(ps:List (List UInt8)):(layS s ep ar ps).fuse=none:=by
 unfold layS;exact flush_fuse (write_fuse (flush_fuse (writeL_fuse h _ _ _)) _ _)
abbrev Rx:Type:=ByteArray×List UInt8×Value
def rx(x:Rx):Rw:=(x.1,x.2.1)
theorem rr_cells{w:World}{v:Value}{rs:List Rw}(h:RR w v rs):∃us:List Rx,us.map rx=rs∧(∀w',Below w.heap.size w w'→Src Tryz.prog 2 40 v us.length (rowCells us) w')∧∀x∈us,RB w x.2.2 x.2.1:=by
 obtain⟨A,c,rfl,h1,h2,h3⟩:=h;rcases h3 with rfl|⟨b,off,rfl,hb,hcell⟩
 ·refine⟨[],rfl,fun w' _=>?_,fun x hx=>(by cases hx)⟩
  cases A with
  |none=>exact Src.ofNil w' Tryz.underlying40 c
  |some a=>exact Src.ofSlice w' Tryz.underlying40 a 0 c [] rfl (fun j u hj=>by simp at hj) (fun u hu=>by cases hu)
 ·obtain⟨us,ag⟩:∃us:List Rx,us=(List.range rs.length).map fun j=>((rs.getD j (⟨#[]⟩,[])).1,(rs.getD j (⟨#[]⟩,[])).2,(w.cell? ⟨b,off+j*2+1,none⟩).getD undef):=⟨_,rfl⟩
  have hlen:us.length=rs.length:=by rw[ag];simp
  have hget:∀j (hj:j<us.length) (s4:j<rs.length),us[j].1=rs[j].1∧us[j].2.1=rs[j].2∧w.cell? ⟨b,off+j*2+1,none⟩=some us[j].2.2∧RB w us[j].2.2 us[j].2.1:=by
   intro j hj s4;obtain⟨_,u,e2,e3⟩:=hcell j s4;have e:us[j]=(rs[j].1,rs[j].2,u):=by
    have:us[j]? =some (rs[j].1,rs[j].2,u):=by
     rw[ag,List.getElem?_map,List.getElem?_range s4];simp only[Option.map_some];rw[List.getD_eq_getElem?_getD,List.getElem?_eq_getElem s4,e2];rfl
    rw[List.getElem?_eq_getElem hj] at this;injection this
   rw[e];exact⟨rfl,rfl,e2,e3⟩
  refine⟨us,?_,?_,fun x hx=>?_⟩
  ·apply List.ext_getElem (by rw[List.length_map,hlen])
   intro j g1 g2;rw[List.getElem_map];obtain⟨a1,a2,_⟩:=hget j (by omega) g2;unfold rx;rw[a1,a2]
  ·intro w' ad
   rw[←hlen];refine Src.ofSlice w' Tryz.underlying40 ⟨b,off,none⟩ us.length c (rowCells us) (rowCells_length us) (fun j u hj=>?_) (fun u hu=>?_)
   ·have hj':j<us.length*2:=by
     have:=(List.getElem?_eq_some_iff.1 hj).1;rw[rowCells_length] at this;exact this
    obtain⟨q1,q2⟩:=rowCells_get us (j/2) (by omega);obtain⟨a1,a2,a3,_⟩:=hget (j/2) (by omega) (by omega);obtain⟨c1,_⟩:=hcell (j/2) (by omega);rcases Nat.mod_two_eq_zero_or_one j with h0|h0
    ·have ej:j/2*2=j:=by omega
     rw[ej] at q1 c1;rw[q1] at hj;injection hj with hj;rw[←hj,a1];have:(Addr.mk b off none).add j=⟨b,off+j,none⟩:=by by_cases h0:j=0 <;>simp[Addr.add,h0]
     rw[this];exact(ad.cell (p:=⟨b,off+j,none⟩) hb).trans c1
    ·have ej:j/2*2+1=j:=by omega
     rw[Nat.add_assoc,ej] at a3;rw[ej] at q2;rw[q2] at hj;injection hj with hj;rw[←hj];have:(Addr.mk b off none).add j=⟨b,off+j,none⟩:=by by_cases h0:j=0 <;>simp[Addr.add,h0]
     rw[this];exact(ad.cell (p:=⟨b,off+j,none⟩) hb).trans a3
   ·unfold rowCells at hu
    obtain⟨x,hx,hu⟩:=List.mem_flatMap.1 hu;obtain⟨j,hj,rfl⟩:=List.getElem_of_mem hx;obtain⟨_,_,_,A4,c4,e4,_⟩:=hget j hj (by omega);simp only[List.mem_cons,List.not_mem_nil,or_false] at hu;rcases hu with rfl|rfl
    ·rfl
    ·rw[e4];rfl
  ·obtain⟨j,hj,rfl⟩:=List.getElem_of_mem hx
   exact(hget j hj (by omega)).2.2.2
theorem cloneR_any(v:Value)(rs:List Rw)(w:World)(h:RR w v rs)(hl:rs.length≤1000000):
  Calls Tryz.prog 68 #[v] w fun e w'=>∃u,e= .returned u∧(∃us:List Rx,us.map rx=rs∧w'.ownsRow w.heap.size 78 2 u us.length (rowCells us)∧∀x∈us,RB w x.2.2 x.2.1)∧Below w.heap.size w w':=by
 obtain⟨us,ag,mP,bY⟩:=rr_cells h;have hsrc:=mP (w.alloc (Obj.cells #[] 78)) ((Below.refl _ _).alloc (Nat.le_refl _) _);have hlen:us.length=rs.length:=by rw[←ag];simp
 have HS:=qH hsrc;have kG:=qH (show 0+us.length≤maxLen by unfold maxLen;omega);have kZ:=qH (show(0+us.length)*40≤140737488355328 by omega);have HO:=qH (own_emptyB w 78 2);have jD:=qH bY;have HU:=qH ag;have HH:=qH h;obtain⟨A,c,rfl,_,_,h3⟩:=h
 cases A with
 |none=>
  have hl0:rs= []:=by
   rcases h3 with h3|⟨b,off,h4,_⟩
   ·exact h3
   ·cases h4
  have e1:(binOp .eql 40 (.slice none rs.length c) (.slice none 0 0)).run Tryz.prog w= .ok (.bool true) w:=eql_nilB w 40 78 none rs.length c Tryz.underlying40;have Jh:=qH hl0;clear h3 hl0 ag hsrc bY mP hlen;go_enter Tryz.func68,Tryz.ntmps68;go_wp2;go_ret;refine⟨_,rfl,⟨[],Jh.out.symm,World.ownsRow_nil _ _ _ _,fun _ h=>by cases h⟩,Below.refl _ _⟩
 |some a=>
  have e1:(binOp .eql 40 (.slice (some a) rs.length c) (.slice none 0 0)).run Tryz.prog w= .ok (.bool false) w:=eql_nilB w 40 78 (some a) rs.length c Tryz.underlying40;have HLEN:=qH hlen;clear h3 ag hsrc bY mP hlen;go_enter Tryz.func68,Tryz.ntmps68;go_wp2_with (at_builtin;refine wpList_own rfl (.tmp 5) (.tmp 6) 40 40 rfl w.heap.size 78 (.agg #[.string ⟨#[]⟩,.slice none 0 0]) 2 40 Tryz.underlying40 info78 rfl rfl HO.out rfl HS.out ((Below.refl w.heap.size w).alloc (Nat.le_refl _) _) (Nat.le_refl _) kG.out kZ.out (by simp) ?_)
  intro v5 w5 an aK _;have dJ:=qH an;have ay:=qH aK;obtain⟨A5,c5,rfl,_⟩:=own_shape an;clear an aK;go_wp2;go_ret;exact⟨_,rfl,⟨us,HU.out,dJ.out,jD.out⟩,ay.out⟩
theorem set_mid{α:Type}{ns us:List α}{k:Nat}(h:ns.length=k)(hk:k<us.length)(y:α):(ns++us.drop k).set k y=(ns++ [y])++us.drop (k+1):=by
 subst h;rw[List.set_append_right _ _ (Nat.le_refl _),Nat.sub_self,List.drop_eq_getElem_cons hk,List.set_cons_zero,List.append_assoc];rfl
theorem rows_step{ns us:List Rx}{k:Nat}(h:ns.length=k)(hk:k<us.length)(u:Value):rowCells ((ns++ [(us[k].1,us[k].2.1,u)])++us.drop (k+1))=(rowCells (ns++us.drop k)).set (k*2+1) u:=by
 have hkc:k<(ns++us.drop k).length:=by rw[List.length_append,List.length_drop];omega
 have B9:(ns++us.drop k)[k]=us[k]:=by
  rw[List.getElem_append_right (by omega),List.getElem_drop]
  congr 1
  omega
 have:=rowCells_setV (ns++us.drop k) k hkc (us[k].2.1,u);rw[B9,set_mid h hk] at this;exact this
theorem rowsS_any{dg:Nat}{M:Nat→Prop}{w:World}{sv:Value}{x:Ss}(h:Sto dg M w sv x)(hl:x.rows.length≤1000000)(hv:∀r∈x.rows,r.2.length≤1000000):
  Calls Tryz.prog 32 #[sv] w fun e w'=>∃v,e= .returned v∧OR 5 78 w' w.heap.size v x.rows∧Below w.heap.size w w':=by
 obtain⟨D,R,g,rv,rfl,h⟩:=h;have c1:=h.blk.cell 1;unfold sc at c1;simp at c1;obtain⟨Ar,cr,ip,_⟩:=rr_shape h.rows.rr;have hcl:=cloneR_any rv x.rows w h.rows.rr hl;subst ip;have mA:=qH hcl;have HV:=qH hv;have HL:=qH hl;clear h hcl hl hv;go_enter Tryz.func32,Tryz.ntmps32;go_wp2_with fail
 go_at_call 68;refine mA.out.mono ?_;rintro e w1⟨u,rfl,⟨us,ag,ho,bY⟩,hb1⟩;have hlen:us.length=x.rows.length:=by rw[←ag];simp
 have eY:us.length≤1000000:=by rw[hlen];exact HL.out
 have In:∀y∈us,y.2.1.length≤1000000:=fun y hy=>HV.out (rx y) (by rw[←ag];exact List.mem_map.2 ⟨y,hy,rfl⟩)
 obtain⟨A,c,rfl,hsh⟩:=own_shape ho;have bZ:=qH ag;have HO:=qH ho;have jD:=qH bY;have al:=qH hb1;have JG:=qH In;clear ag ho bY hb1 hlen In c1;obtain⟨n,hn⟩:∃n,n=us.length:=⟨_,rfl⟩
 rw[←hn] at eY⊢;have HN:=qH hn;clear hn;go_wp2_with fail
 go_loopw [14] (fun i wr=>∃k:Nat,k≤n∧i= .int .i64 k∧Below w.heap.size w wr∧∃ns:List Rx,ns.length=k∧ns.map rx=(us.take k).map rx∧wr.ownsRow w.heap.size 78 2 (.slice A n c) n (rowCells (ns++us.drop k))∧∀y∈ns,FB 5 wr w.heap.size y.2.2 y.2.1) (fun i _=>n-(intOf i).toNat)
 case atStart=>exact⟨0,Nat.zero_le _,rfl,al.out,[],rfl,rfl,by have h:=HO.out;rw[←HN.out] at h;exact h,fun _ h=>by cases h⟩
 case round=>
  obtain⟨k,hk,rfl,ai,ns,hnl,uY,how,Br⟩:=hrel;by_cases hlt:k<n
  ·have hN:=HN.out
   have mX:k<us.length:=by omega
   obtain⟨g2,hA⟩:∃g2,A=some ⟨g2,0,none⟩:=by
    rcases how.2 with ⟨he,h0⟩|⟨g2,cap,cur,he,_⟩
    ·omega
    ·injection he with he _ _
     exact⟨g2,he⟩
   subst hA;have hg2:w.heap.size≤g2∧g2<wr.heap.size:=by
    rcases how.2 with ⟨he,_⟩|⟨g',cap',cur',he',hbb',hg',_⟩
    ·cases he
    ·injection he' with he' _ _;injection he' with he';injection he' with he' _;subst he';exact⟨hbb',(Array.getElem?_eq_some_iff.1 hg').1⟩
   have cD:(ns++us.drop k).length=us.length:=by rw[List.length_append,List.length_drop];omega
   have hkc:k<(ns++us.drop k).length:=by omega
   have B9:(ns++us.drop k)[k]=us[k]:=by
    rw[List.getElem_append_right (by omega),List.getElem_drop]
    congr 1
    omega
   obtain⟨q1,q2⟩:=rowCells_get (ns++us.drop k) k hkc;rw[B9] at q1 q2;have hc2:=how.cells (g:=g2) rfl _ _ q2;rw[Addr.add_lit] at hc2;simp only[Nat.zero_add] at hc2;have uz:=(jD.out us[k] (List.getElem_mem mX)).below ai;have hcall:=cloneB_any us[k].2.2 us[k].2.1 wr uz (by have:=JG.out us[k] (List.getElem_mem mX);omega);obtain⟨A9,c9,h9⟩:=rb_shape uz;rw[h9] at hc2 hcall;have fq:=qH hcall;have HOW:=qH how;have EN:=qH Br;have CC:=qH uY;have pj:=qH hnl;have aw:=qH ai;have HG2:=qH hg2;have HC:=qH cD;have CR:=qH hc2;have ML:=qH mX;clear hcall how Br uY hnl ai hg2 cD q1 q2 h9 uz B9 hkc hN;go_wp2_with fail
   go_at_call 69;refine fq.out.mono ?_;rintro e w2⟨u2,rfl,bq,hb2⟩;obtain⟨A8,c8,rfl⟩:=bq.shape;have hc3:w2.cell? ⟨g2,k*2+1,none⟩=_:=(hb2.cell (p:=⟨g2,k*2+1,none⟩) HG2.out.2).trans CR.out;have ui:=own_below HOW.out hb2;have hfz:w2.frozen? ⟨g2,k*2+1,none⟩=false:=by
    rcases ui.2 with ⟨he,_⟩|⟨g',cap',cur',he',hbb',hg',_⟩
    ·cases he
    ·injection he' with he' _ _;injection he' with he';injection he' with he' _;subst he'
     simp[World.frozen?,hg']
   have At:=qH ui;have fo:=qH bq;have ae:=qH hb2;clear bq hb2 ui hc2;go_wp2_with fail
   have hst:=own_set At.out (k*2+1) (.slice A8 us[k].2.1.length c8);rw[←rows_step pj.out mX] at hst;have hstep:∃ns':List Rx,ns'.length=k+1∧ns'.map rx=(us.take (k+1)).map rx∧(w2.setCell ⟨g2,k*2+1,none⟩ (.slice A8 us[k].2.1.length c8)).ownsRow w.heap.size 78 2 (.slice (some ⟨g2,0,none⟩) n c) n (rowCells (ns'++us.drop (k+1)))∧∀y∈ns',FB 5 (w2.setCell ⟨g2,k*2+1,none⟩ (.slice A8 us[k].2.1.length c8)) w.heap.size y.2.2 y.2.1:=by
    refine⟨ns++ [(us[k].1,us[k].2.1,.slice A8 us[k].2.1.length c8)],by rw[List.length_append,pj.out];rfl,?_,hst,fun y hy=>?_⟩
    ·rw[List.map_append,CC.out,List.take_succ_eq_append_getElem mX,List.map_append]
     rfl
    ·refine fb_own At.out (by decide) _ _ ?_
     rcases List.mem_append.1 hy with hy|hy
     ·exact(EN.out y hy).below ae.out
     ·simp only[List.mem_singleton] at hy
      subst hy;exact fo.out.base_ (Nat.le_of_lt (Nat.lt_of_le_of_lt HG2.out.1 HG2.out.2))
   have zT:=qH hstep;have es:=qH ((aw.out.trans (ae.out.mono aw.out.size)).setCell (p:=⟨g2,k*2+1,none⟩) HG2.out.1 (.slice A8 us[k].2.1.length c8));clear hst hstep;exact⟨⟨k+1,hlt,rfl,es.out,zT.out⟩,by simp only[intOf];omega⟩
  ·obtain rfl:k=n:=by omega
   have hd:us.drop k= []:=List.drop_eq_nil_of_le (by have:=HN.out;omega);have ht:us.take k=us:=List.take_of_length_le (by have:=HN.out;omega);rw[hd,List.append_nil] at how;rw[ht] at uY;have HOW:=qH how;have EN:=qH Br;have CC:=qH uY;have pj:=qH hnl;have aw:=qH ai;clear how Br uY hnl ai hd ht;go_wp2;go_ret;refine⟨_,rfl,⟨ns,?_,by rw[pj.out];exact HOW.out,EN.out⟩,aw.out⟩;exact CC.out.trans bZ.out
def Up(A:Nat→Prop)(n m:Nat):Nat→Prop:=fun k=>A k∨(n≤k∧k<m)
section
variable {A A':Nat→Prop} {w w':World} {tv lv:Value} {s:Sim} {rs:List Rw} {n m n' m':Nat}
theorem TRd.six(h:TRd A w tv s):∃aS cS aL cL cw cf f lf,tv= .agg #[.slice aS s.firm.length cS,.slice aL s.loose.length cL,.int .i64 cw,.int .i64 cf,.bool f,.int .i64 lf]:=by
 obtain⟨vS,vL,lf,cw,cf,rfl,hS,hL,_⟩:=h;obtain⟨aS,cS,rfl,_⟩:=hS.shape;obtain⟨aL,cL,rfl,_⟩:=hL.shape;exact⟨_,_,_,_,_,_,_,_,rfl⟩
theorem up_new(hn:w.heap.size≤n):∀k,Up A n m k→A k∨w.heap.size≤k:=fun k hk=>hk.imp id fun h=>Nat.le_trans hn h.1
theorem TRd.up_(h:TRd A w tv s)(hb:Below w.heap.size w w')(hn:w.heap.size≤n):TRd (Up A n m) w' tv s:=h.fr (D:=fun _=>False) (Fr.of_below hb) (fun _ h=>h.elim) (up_new hn)
theorem TRd.wide(h:TRd A w tv s)(hA:∀k,A' k→A k):TRd A' w tv s:=h.fr (D:=fun _=>False) (Fr.refl _ _) (fun _ h=>h.elim) (fun k hk=> .inl (hA k hk))
theorem TRd.down_(h:TRd (Up A n m) w tv s):TRd A w tv s:=h.wide (fun _ h=> .inl h)
theorem TRd.st{D:Nat→Prop}(h:TRd (Up A n m) w tv s)(hf:Fr D w w')(hD:∀k,D k→n≤k∧k<m):TRd (Up A n m) w' tv s:=h.fr hf (fun k hk=> .inr (hD k hk)) (fun _ h=> .inl h)
theorem RRd.up_(h:RRd A w lv rs)(hb:Below w.heap.size w w')(hn:w.heap.size≤n):RRd (Up A n m) w' lv rs:=h.fr (D:=fun _=>False) (Fr.of_below hb) (fun _ h=>h.elim) (up_new hn)
theorem RRd.wide(h:RRd A w lv rs)(hA:∀k,A' k→A k):RRd A' w lv rs:=h.fr (D:=fun _=>False) (Fr.refl _ _) (fun _ h=>h.elim) (fun k hk=> .inl (hA k hk))
theorem RRd.down_(h:RRd (Up A n m) w lv rs):RRd A w lv rs:=h.wide (fun _ h=> .inl h)
theorem RRd.st{D:Nat→Prop}(h:RRd (Up A n m) w lv rs)(hf:Fr D w w')(hD:∀k,D k→n≤k∧k<m):RRd (Up A n m) w' lv rs:=h.fr hf (fun k hk=> .inr (hD k hk)) (fun _ h=> .inl h)
theorem up_lt(hA:∀k,A k→k<w.heap.size)(hm:m≤w'.heap.size)(hs:w.heap.size≤w'.heap.size):∀k,Up A n m k→k<w'.heap.size:=fun k hk=>by
 rcases hk with h|h
 ·exact Nat.lt_of_lt_of_le (hA k h) hs
 ·omega
end
def sixC(w:World)(g:Nat)(v0 v1 v2 v3 v4 v5:Value):World:=((((((w.setCell ⟨g,0,none⟩ v0).setCell ⟨g,1,none⟩ v1).setCell ⟨g,2,none⟩ v2).setCell ⟨g,3,none⟩ v3).setCell ⟨g,4,none⟩ v4).setCell ⟨g,5,none⟩ v5)
theorem six_def(w:World)(g:Nat)(v0 v1 v2 v3 v4 v5:Value):((((((w.setCell ⟨g,0,none⟩ v0).setCell ⟨g,1,none⟩ v1).setCell ⟨g,2,none⟩ v2).setCell ⟨g,3,none⟩ v3).setCell ⟨g,4,none⟩ v4).setCell ⟨g,5,none⟩ v5)=sixC w g v0 v1 v2 v3 v4 v5:=rfl
theorem six_here{w:World}{g:Nat}{t:TypeId}{z0 z1 z2 z3 z4 z5:Value}(h:Dv.Blk w g t #[z0,z1,z2,z3,z4,z5])(v0 v1 v2 v3 v4 v5:Value):Dv.Blk (sixC w g v0 v1 v2 v3 v4 v5) g t #[v0,v1,v2,v3,v4,v5]:=blk_six h v0 v1 v2 v3 v4 v5
theorem six_far{w:World}{g b:Nat}{t:TypeId}{cs:Array Value}(h:Dv.Blk w b t cs)(hne:b≠g)(v0 v1 v2 v3 v4 v5:Value):Dv.Blk (sixC w g v0 v1 v2 v3 v4 v5) b t cs:=
 (((((h.far (p:=⟨g,0,none⟩) hne v0).far (p:=⟨g,1,none⟩) hne v1).far (p:=⟨g,2,none⟩) hne v2).far (p:=⟨g,3,none⟩) hne v3).far (p:=⟨g,4,none⟩) hne v4).far (p:=⟨g,5,none⟩) hne v5
theorem six_fr(w:World)(g:Nat)(v0 v1 v2 v3 v4 v5:Value):Fr (fun j=>j=g) w (sixC w g v0 v1 v2 v3 v4 v5):=fr_six (Fr.refl (fun j=>j=g) w) (.inl rfl) v0 v1 v2 v3 v4 v5
theorem wr8_any{A:Nat→Prop}{w:World}{tv bvv:Value}{s:Sim}(i:Int)(b:List UInt8)(h:TRd A w tv s)(hok:OK s)(hA:∀k,A k→k<w.heap.size)(ng:s.loose.length<100000)(hb:RB w bvv b):
  Calls Tryz.prog 42 #[tv,.int .i64 i,bvv] w (MadeD A w (s.write i b)):=by
 obtain⟨aS,cS,aL,cL,cw,cf,f,lf,rfl⟩:=h.six;obtain⟨aB,cB,rfl⟩:=rb_shape hb;obtain⟨W1,hW1⟩:∃W1,W1=((w.alloc (Obj.cells #[.slice aS s.firm.length cS,.slice aL s.loose.length cL,.int .i64 cw,.int .i64 cf,.bool f,.int .i64 lf] 29)).alloc (Obj.cells #[.slice none 0 0,.slice none 0 0,.int .i64 0,.int .i64 0,.bool false,.int .i64 0] 29)):=⟨_,rfl⟩
 have ai:Below w.heap.size w W1:=by rw[hW1];exact below2 w _ _
 have hs1:W1.heap.size=w.heap.size+2:=by rw[hW1];simp
 have hb2:Dv.Blk W1 (w.heap.size+1) 29 #[.slice none 0 0,.slice none 0 0,.int .i64 0,.int .i64 0,.bool false,.int .i64 0]:=by rw[hW1];exact heap_alloc2_new w _ _
 obtain⟨g2,hg2⟩:∃g2,g2=w.heap.size+1:=⟨_,rfl⟩
 rw[←hg2] at hb2;have hcall:=refwrite_any i b (h.up_ (n:=g2) (m:=g2+1) ai (by omega)) hok (up_lt hA (by omega) ai.size) ng (hb.below ai);obtain⟨s2,hs2⟩:∃s2,s2=s.write i b:=⟨_,rfl⟩
 rw[←hs2] at hcall⊢;obtain⟨r2,hr2⟩:∃r2,r2=s.wrote i b:=⟨_,rfl⟩
 rw[←hr2] at hcall;have HC:=qH hcall;have ae:=qH hb2;have aw:=qH ai;have dM:=qH hW1;have HG2:=qH hg2;have jy:=qH hs1;clear h hok hA ng hb hcall hb2 ai hW1 hs1 hs2 hr2;go_enter Tryz.func42,Tryz.ntmps42;go_wp2_with fail
 go_at_call 80;rw[←dM.out];refine HC.out.mono ?_;rintro e w1⟨BD,rfl,ht,hb1⟩;obtain⟨dI,dH,eI,eH,dG,eg,f1,lf1,rfl⟩:=ht.six;have hk2:=ae.out.below hb1 ae.out.lt;have bo:=qH hk2;have hlt:=hk2.lt;have HT:=qH ht;have al:=qH (aw.out.trans (hb1.mono aw.out.size));obtain⟨d0,d1,d2,d3,d4,d5⟩:=cl6 hk2;have df:=hk2.frozen;rw[←hg2];clear hk2 ht hb1 hg2;have hblk:=(blk_six bo.out (.slice dI s2.firm.length dH) (.slice eI s2.loose.length eH) (.int .i64 dG) (.int .i64 eg) (.bool f1) (.int .i64 lf1)).alloc (Obj.cells #[.slice dI s2.firm.length dH,.slice eI s2.loose.length eH,.int .i64 dG,.int .i64 eg,.bool f1,.int .i64 lf1] 29);have ax:=(fr_six (Fr.refl (fun k=>k=g2) w1) (.inl rfl) (.slice dI s2.firm.length dH) (.slice eI s2.loose.length eH) (.int .i64 dG) (.int .i64 eg) (.bool f1) (.int .i64 lf1)).alloc (Obj.cells #[.slice dI s2.firm.length dH,.slice eI s2.loose.length eH,.int .i64 dG,.int .i64 eg,.bool f1,.int .i64 lf1] 29);go_wp2_with (refine bodyPost_ret (v:= .agg #[.slice dI s2.firm.length dH,.slice eI s2.loose.length eH,.int .i64 dG,.int .i64 eg,.bool f1,.int .i64 lf1]) (results_cell_row rfl _ _ g2 29 _ (0,0) _ rfl hblk Tryz.underlying29 rfl (six38 _ _ _ _ _ _)) rfl ?_)
 exact⟨_,rfl,(HT.out.st ax (fun k hk=>by omega)).down_,al.out.trans (ax.below (fun k hk=>by have:=HG2.out;omega) al.out.size)⟩
def BoxT(A:Nat→Prop)(w:World)(g:Nat)(s:Sim):Prop:=∃aS nS cS aL nL cL cw cf f lf,Dv.Blk w g 29 #[.slice aS nS cS,.slice aL nL cL,.int .i64 cw,.int .i64 cf,.bool f,.int .i64 lf]∧TRd A w (.agg #[.slice aS nS cS,.slice aL nL cL,.int .i64 cw,.int .i64 cf,.bool f,.int .i64 lf]) s
theorem TRd.sixn{A:Nat→Prop}{w:World}{tv:Value}{s:Sim}(h:TRd A w tv s):∃aS nS cS aL nL cL cw cf f lf,tv= .agg #[.slice aS nS cS,.slice aL nL cL,.int .i64 cw,.int .i64 cf,.bool f,.int .i64 lf]:=by
 obtain⟨vS,vL,lf,cw,cf,rfl,hS,hL,_⟩:=h;obtain⟨aS,cS,rfl,_⟩:=hS.shape;obtain⟨aL,cL,rfl,_⟩:=hL.shape;exact⟨_,_,_,_,_,_,_,_,_,_,rfl⟩
theorem BoxT.below{A:Nat→Prop}{w w':World}{g:Nat}{s:Sim}(h:BoxT A w g s)(hb:Below w.heap.size w w'):BoxT A w' g s:=by
 obtain⟨aS,nS,cS,aL,nL,cL,cw,cf,f,lf,h1,h2⟩:=h;exact⟨aS,nS,cS,aL,nL,cL,cw,cf,f,lf,h1.below hb h1.lt,h2.below hb⟩
theorem BoxT.store{A:Nat→Prop}{w:World}{g:Nat}{s:Sim}{z0 z1 z2 z3 z4 z5:Value}{aS aL:Option Addr}{nS cS nL cL:Nat}{cw cf lf:Int}{f:Bool}(h:Dv.Blk w g 29 #[z0,z1,z2,z3,z4,z5])(ht:TRd A w (.agg #[.slice aS nS cS,.slice aL nL cL,.int .i64 cw,.int .i64 cf,.bool f,.int .i64 lf]) s)(hg:A g):BoxT A (sixC w g (.slice aS nS cS) (.slice aL nL cL) (.int .i64 cw) (.int .i64 cf) (.bool f) (.int .i64 lf)) g s:=
 ⟨aS,nS,cS,aL,nL,cL,cw,cf,f,lf,six_here h _ _ _ _ _ _,ht.fr (six_fr w g _ _ _ _ _ _) (fun k hk=>by subst hk;exact hg) (fun _ h=> .inl h)⟩
theorem ok_writeL8{s:Sim}(h:OK s)(a:Nat)(ps:List (List UInt8)):∀k,s.loose.length+k<100000→OK (writeL s a ps k)
 |0,_=>h
 |k+1,hk=>by
  have:=writeL_loose s a ps k;exact(ok_writeL8 h a ps k (by omega)).write _ _ (by omega)
theorem chunk_at{ps:List (List UInt8)}(h:∀p∈ps,p.length=256){k i:Nat}(hk:k<ps.length)(hi:i<4):(chunkL64 ps.flatten).getD (k*4+i) []=(ps[k].drop (64*i)).take 64:=by
 have hl:=flat256 h;have ho:of64 ps.flatten=ps.length*4:=by unfold of64;omega
 unfold chunkL64;rw[ho,List.getD_eq_getElem?_getD,List.getElem?_map,List.getElem?_range (by omega),Option.map_some,Option.getD_some];unfold pc64;have e:ps.flatten.drop (256*k)=ps[k]++(ps.drop (k+1)).flatten:=by
  clear hl ho hi
  induction ps generalizing k with
  |nil=>cases hk
  |cons p ps ih=>
   cases k with
   |zero=>simp
   |succ k=>
    have hp:p.length=256:=h p (by simp);rw[List.flatten_cons,show 256*(k+1)=p.length+256*k by omega,←List.drop_drop,List.drop_append,List.drop_of_length_le (Nat.le_refl _),Nat.sub_self,List.drop_zero,List.nil_append];exact ih (fun q hq=>h q (by simp[hq])) (by simpa using hk)
 have hp:ps[k].length=256:=h _ (List.getElem_mem hk);rw[show 64*(k*4+i)=256*k+64*i by omega,←List.drop_drop,e,List.drop_append,Nat.sub_eq_zero_of_le (by omega),List.drop_zero,List.take_append,List.length_drop,hp,Nat.sub_eq_zero_of_le (by omega),List.take_zero,List.append_nil]
theorem leaveL{W:World}{tmps:Array Value}{g:Nat}{z0 z1 z2 z3 z4 z5 d:Value}(h4:tmps.getD 8 undef= .pointer (some ⟨g,0,none⟩))(h5:tmps.getD 9 undef=d)(hb:Dv.Blk W g 29 #[z0,z1,z2,z3,z4,z5]):
  (results Tryz.f43 tmps).run Tryz.prog W= .ok (.tuple #[.agg #[z0,z1,z2,z3,z4,z5],d]) W:=by
 obtain⟨r0,r1,r2,r3,r4,r5⟩:=cl6 hb;rw[Array.getD_eq_getD_getElem?] at h4 h5;simp[results,h4,h5,r0,r1,r2,r3,r4,r5,go_sem]
theorem lay8_any{A:Nat→Prop}{w:World}{tv lv:Value}{s:Sim}{rs:List Rw}{ps:List (List UInt8)}(ep ar:Nat)(h:TRd A w tv s)(hok:OK s)(hA:∀k,A k→k<w.heap.size)(hr:RR w lv rs)(hps:buildL rs=some ps)(aY:∀p∈ps,p.length=256)
  (hn:64≤s.firm.length) (hfit:ps.length≤aN s.firm.length) (hl:s.loose.length≤50000) (fi:ep≤1073741824) (har:ar≤1):
  Calls Tryz.prog 43 #[tv,lv,.int .i64 (ar:Int),.int .i64 (ep:Int)] w (MadeD2 A w (layS s ep ar ps) (.bool true)):=by
 have HN:=hok.n;have ha:=aN_le s.firm.length;have hpl:ps.length≤600:=by omega
 obtain⟨aS,cS,aL,cL,cw,cf,f,lf,rfl⟩:=h.six;obtain⟨Al,cl,rfl,_,_⟩:=rr_shape hr;obtain⟨W1,hW1⟩:∃W1,W1=((w.alloc (Obj.cells #[.slice aS s.firm.length cS,.slice aL s.loose.length cL,.int .i64 cw,.int .i64 cf,.bool f,.int .i64 lf] 29)).alloc (Obj.cells #[.slice none 0 0,.slice none 0 0,.int .i64 0,.int .i64 0,.bool false,.int .i64 0] 29)):=⟨_,rfl⟩
 have ai:Below w.heap.size w W1:=by rw[hW1];exact below2 w _ _
 have hs1:W1.heap.size=w.heap.size+2:=by rw[hW1];simp
 have hb4:Dv.Blk W1 w.heap.size 29 #[.slice aS s.firm.length cS,.slice aL s.loose.length cL,.int .i64 cw,.int .i64 cf,.bool f,.int .i64 lf]:=by rw[hW1];exact heap_alloc2_old w _ _
 have ec:Dv.Blk W1 (w.heap.size+1) 29 #[.slice none 0 0,.slice none 0 0,.int .i64 0,.int .i64 0,.bool false,.int .i64 0]:=by rw[hW1];exact heap_alloc2_new w _ _
 have hT:TRd (Up A w.heap.size (w.heap.size+2)) W1 (.agg #[.slice aS s.firm.length cS,.slice aL s.loose.length cL,.int .i64 cw,.int .i64 cf,.bool f,.int .i64 lf]) s:=h.up_ ai (Nat.le_refl _);have cy:∀k,Up A w.heap.size (w.heap.size+2) k→k<W1.heap.size:=up_lt hA (by omega) ai.size;have jz:=qH (show BoxT (Up A w.heap.size (w.heap.size+2)) W1 w.heap.size s from⟨_,_,_,_,_,_,_,_,_,_,hb4,hT⟩);obtain⟨n,hne⟩:∃n,n=s.firm.length:=⟨_,rfl⟩
 have ak:=fun X=>layout8_any (n:Int) (by omega) (by omega) X
 rw[layJ_nat,layA_nat] at ak;obtain⟨M,hM⟩:∃M,M=aN n:=⟨_,rfl⟩
 obtain⟨J,hJ⟩:∃J,J=jN n:=⟨_,rfl⟩
 rw[←hM,←hJ] at ak;have hbg:=fun(k:Nat) (hk:k≤600) (X:World)=>begin8_any n ar k (by omega) har (by omega) X
 obtain⟨F,hF⟩:∃F,F=firstN n ar:=⟨_,rfl⟩
 rw[←hF] at hbg;have vC:=firstN_le (n:=n) (area:=ar) (k:=ps.length) (by omega) har (by rw[hne];exact hfit);rw[←hF] at vC;have nj:=fun X=>head8_any ep ar ps.length fi har (by omega) X
 have lW:=refBuild_any _ rs W1 (rr_below hr ai (Nat.le_refl _));rw[hps] at lW;have zr:¬(M:Int)<(ps.length:Int):=by rw[hM,hne];omega
 obtain⟨C,hC⟩:∃C,C=chunkL64 ps.flatten:=⟨_,rfl⟩
 have Cm:C.length=ps.length*4:=by rw[hC];unfold chunkL64;rw[List.length_map,List.length_range];unfold of64;rw[flat256 aY];omega
 have Hs:∀k i (hk:k<ps.length),i<4→C.getD (k*4+i) []=(ps[k].drop (64*i)).take 64:=fun k i hk hi=>by rw[hC];exact chunk_at aY hk hi
 have hgo:layS s ep ar ps=((writeL s F C (ps.length*4)).flush.write ((ep%2:Nat):Int) (Str.headL ep ar ps.length)).flush:=by unfold layS;rw[←Cm,hC,hF,hne]
 have Aj:∀m,m≤2400→OK (writeL s F C m)∧(writeL s F C m).loose.length<60000:=fun m hm=>⟨ok_writeL8 hok _ _ m (by omega),by have:=writeL_loose s F C m;omega⟩
 obtain⟨SS,gG⟩:∃SS:Nat→Sim,SS=fun m=>writeL s F C m:=⟨_,rfl⟩
 have mF:SS 0=s:=by rw[gG];rfl
 have xt:∀m,SS (m+1)=(SS m).write ((F+m:Nat):Int) (C.getD m []):=fun m=>by rw[gG];rfl
 have vN:∀m,m≤2400→OK (SS m)∧(SS m).loose.length<60000:=fun m hm=>by rw[gG];exact Aj m hm
 have qI:layS s ep ar ps=((SS (ps.length*4)).flush.write ((ep%2:Nat):Int) (Str.headL ep ar ps.length)).flush:=by rw[hgo,gG]
 obtain⟨R,hR⟩:∃R,R=layS s ep ar ps:=⟨_,rfl⟩
 rw[←hR] at qI⊢;obtain⟨L,hL⟩:∃L,L=ps.length:=⟨_,rfl⟩
 rw[←hL] at qI nj zr hpl;rw[←mF] at jz;have aZ:=qH ak;have EA:=qH hbg;have sV:=qH nj;have dd:=qH lW;have jo:=qH xt;have pi:=qH vN;have rU:=qH qI;have td:=qH Hs;have Ds:=qH aY;have uk:=qH hL;have aw:=qH ai;have ga:=qH cy;have dP:=qH ec;have jy:=qH hs1;rw[←hne] at hW1;have dM:=qH hW1;have fo:=qH (show F≤4096 by omega);rw[←hne];have lg:64≤n:=by rw[hne];exact hn
 have dt:n≤4096:=by rw[hne];exact HN
 clear h hok hA hr hps aY hn hfit hl HN ha ai hs1 hb4 ec hT cy ak hM hJ hbg hF vC nj lW hC Cm Hs hgo Aj gG mF xt vN qI hR hL hW1 hne;obtain⟨g4,hg4⟩:∃g4,g4=w.heap.size:=⟨_,rfl⟩
 rw[←hg4] at jz dP jy ga;have b7:=qH hg4;clear hg4;go_enter Tryz.func43,Tryz.ntmps43;go_wp2_with (go_at_call 30;refine(aZ.out _).mono ?_;rintro e wq ⟨rfl,rfl⟩)
 rw[←dM.out,←b7.out];refine dd.out.mono ?_;rintro e w1⟨pv,rfl,hop,hb1⟩;simp only[Option.isSome,Option.getD_some] at hop⊢;obtain⟨Ap,cp,rfl,hc1,hc2⟩:=hop.shape;rw[←uk.out] at hc2⊢;have bU:=qH (show PN w1 (g4+2) (.slice Ap L cp) ps from by rw[uk.out];exact(OP.pn hop).base_ (by have:=jy.out;omega));have C5:=qH (jz.out.below hb1);have qm:=qH (dP.out.below hb1 dP.out.lt);have pz:=qH (aw.out.trans (hb1.mono aw.out.size));have AU:=qH (fun k hk=>Nat.lt_of_lt_of_le (ga.out k hk) hb1.size);clear hop hb1 jz dP dd;go_wp2_with fail
 simp only[show ¬(M<L) by omega,decide_false]
 go_loopw [15] (fun i wr=>∃k:Nat,k≤L∧i= .int .i64 k∧BoxT (Up A g4 (g4+2)) wr g4 (SS (k*4))∧Fr (fun j=>j=g4) w1 wr) (fun i _=>L-(intOf i).toNat)
 case atStart=>exact⟨0,Nat.zero_le _,rfl,C5.out,Fr.refl _ _⟩
 case round=>
  obtain⟨k,hk,rfl,bz,ax⟩:=hrel;have wg:=qH bz;have uq:=qH ax;clear bz ax;by_cases hlt:k<L
  ·go_wp2_with fail
   go_loopw [16] (fun i wr=>∃j:Nat,j≤4∧i= .int .i64 j∧BoxT (Up A g4 (g4+2)) wr g4 (SS (k*4+j))∧Fr (fun j=>j=g4) w1 wr) (fun i _=>4-(intOf i).toNat)
   case atStart=>exact⟨0,Nat.zero_le _,rfl,wg.out,uq.out⟩
   case round=>
    obtain⟨j,hj,rfl,bz,ax⟩:=hrel;by_cases kh:j<4
    ·obtain⟨aS,nS,cS,aL,nL,cL,cw,cf,f,lf,hblk,htr⟩:=bz
     obtain⟨sm,hsm⟩:∃sm,sm=SS (k*4+j):=⟨_,rfl⟩
     rw[←hsm] at htr;have bE:=pi.out (k*4+j) (by omega);rw[←hsm] at bE;have jq:=bU.out.fr ax (fun q hq=>by omega);have vh:k<ps.length:=by rw[←uk.out];exact hlt
     obtain⟨bP,oP,u,rfl,hu,bi,BA⟩:=pn_at jq vh;clear BA;have aY:=Ds.out _ (List.getElem_mem vh);have mp:bP≠g4:=by
      obtain⟨A',c',he,_,_,h3⟩:=jq;rcases h3 with h3|⟨b2,o2,h4,h5,_⟩
      ·rw[h3] at vh;cases vh
      ·injection he with he _ _
       rw[←he] at h4;injection h4 with h4;injection h4 with h4 _;omega
     have np:bP<wr.heap.size:=World.block_lt_of_cell? wr _ hu;obtain⟨Au,cu,ag,wY,IV,xS⟩:=id bi;rw[aY] at ag wY;subst ag;obtain⟨bu,ou,rfl,KJ,kH⟩:∃bu ou,Au=some ⟨bu,ou,none⟩∧bu<wr.heap.size∧∀q (hq:q<ps[k].length),wr.cell? ⟨bu,ou+q,none⟩=some (bv ps[k][q]):=by
      rcases xS with h3|⟨b2,o2,h4,h5,h6⟩
      ·rw[h3] at aY;cases aY
      ·exact⟨b2,o2,h4,h5,h6⟩
     have hcut:=RB.cut (q:=64*j) (n:=64) (show RB wr (.slice (some ⟨bu,ou,none⟩) ps[k].length cu) ps[k] by rw[aY];exact bi) (by rw[aY];omega);rw[←td.out k j vh kh] at hcut;obtain⟨pc,hpc⟩:∃pc,pc=C.getD (k*4+j) []:=⟨_,rfl⟩
     rw[←hpc] at hcut;have hnx:=jo.out (k*4+j);rw[←hsm,←hpc] at hnx;have hwr:=fun X (hX:Below wr.heap.size wr X)=>wr8_any (((F+k*4:Nat):Int)+(j:Int)) pc (htr.below hX) bE.1 (fun q hq=>Nat.lt_of_lt_of_le (AU.out q hq) (Nat.le_trans ax.size hX.size)) (by omega) (hcut.below hX)
     rw[show((F+k*4:Nat):Int)+(j:Int)=((F+(k*4+j):Nat):Int) by omega,←hnx,show((F+(k*4+j):Nat):Int)=((F+k*4:Nat):Int)+(j:Int) by omega] at hwr;have hbg:=fun X=>EA.out k (by omega) X
     have i7:=qH hwr;have mc:=qH hbg;have HU:=qH hu;have az:=qH hblk;have dw:=qH ax;have fO:=qH mp;obtain⟨F4,xJ⟩:∃F4,F4=F+k*4:=⟨_,rfl⟩
     rw[←xJ] at i7 mc;have Kj:F4≤7000:=by have:=fo.out;omega
     obtain⟨z0,z1,z2,z3,z4,z5⟩:=cl6 hblk;have q1:(0:Int)≤(k:Int):=by omega
     have q2:(k:Int)<(L:Int):=by omega
     have q3:(0:Int)≤(j:Int):=by omega
     have q4:(j:Int)<4:=by omega
     have q5:(256:Int)≤(cu:Int):=by omega
     have q6:¬cu=64*j:=by omega
     have hx1:IntKind.i64.wrap (64*(j:Int))=64*(j:Int):=by rw[IntKind.wrap_i64];omega
     have hx3:IntKind.i64.wrap ((F4:Int)+(j:Int))=(F4:Int)+(j:Int):=by rw[IntKind.wrap_i64];omega
     have hx2:IntKind.i64.wrap (64*(j:Int)+64)=64*(j:Int)+64:=by rw[IntKind.wrap_i64];omega
     clear htr bE jq bi kH wY xS hcut hpc hnx hwr hbg hblk ax xJ hsm aY vh KJ;go_wp2_with fail
     refine wp_region_held_drew (S:=fun X=>Fr (fun q=>q=g4) wr X) (by kernel_rfl) ((Fr.refl _ _).drew) (fun hHeld=>?_);refine tkC 1 ?_;refine tkC 2 ?_;refine tkC 3 ?_;refine tkC 5 ?_;refine tkC 7 ?_;refine tkC 8 ?_;refine tkC 9 ?_;refine tkA 10 (v:=?_) ?_ ?_;rotate_left
     ·intro W hSw;have hq:=(World.cell?_of_block (a:=⟨bP,oP+k,none⟩) (hSw.block bP np fO.out)).trans HU.out;go_simp;try (with_reducible rfl)
     try simp only[Act.put,zA,zB,zC]
     refine tkC 11 ?_;refine tkC 12 ?_;refine tkC 13 ?_;refine tkC 14 ?_;refine tkC 15 ?_;refine tkA 16 (v:=?_) ?_ ?_;rotate_left
     ·intro W hSw;go_simp;rw[if_pos ⟨by omega,by omega⟩,if_pos ⟨by omega,by omega⟩,show(64*(j:Int)).toNat=64*j by omega,if_neg (by omega),show(64*(j:Int)+64).toNat-64*j=64 by omega];try (with_reducible rfl)
     try simp only[Act.put,zA,zB,zC]
     refine rdA (rs:= [0,4]) ?_;refine AllReadyH.cons (o:=⟨some 49,.load 29 (.tmp 4),29,"ref.go:81",#[],none⟩) rfl (fun K hK=>?_) (AllReadyH.cons (o:=⟨some 53,.call ⟨.value (.func 81),#[.tmp 50,.tmp 51,.tmp 52],#[3,3,3]⟩,3,"ref.go:81",#[⟨1,.data⟩,⟨2,.data⟩,⟨3,.data⟩],none⟩) rfl (fun K hK=>?_) AllReadyH.nil)
     ·go_simp
      refine hK.out _ _ ?_ (fun _=>?_)
      ·exact hHeld
      clear hK K;try simp only[Act.put,zA,zB,zC]
      refine rdA (rs:= [4]) ?_;refine arC (fun K hK=>?_);go_simp;refine(mc.out _).mono ?_;rintro e wq⟨rfl,rfl⟩;refine hK.out _ _ ?_ (fun _=>?_)
      ·exact hHeld
      clear hK K;try simp only[Act.put,zA,zB,zC]
      refine tkC 6 ?_;refine rdA (rs:= [17]) ?_;refine arC (fun K hK=>?_);go_simp;refine(i7.out _ ((Below.refl wr.heap.size wr).drew)).mono ?_;rintro e w5⟨vq,rfl,fW,aq⟩;obtain⟨fJ,fF,fD,fy,fM,fG,fA,fj,f5,lf5,rfl⟩:=fW.sixn;have mt:=qH fW;have uE:Below wr.heap.size wr w5:=((Below.refl wr.heap.size wr).drew).trans aq;have ay:=qH uE;clear fW aq z0 z1 z2 z3 z4 z5;refine hK.out _ _ ?_ (fun hHeld=>?_)
      ·exact(Fr.of_below ay.out)
      clear hK K;try simp only[Act.put,zA,zB,zC]
      refine rdA (rs:= [18]) ?_;refine arC (fun K hK=>?_);have a9:=az.out.below ay.out az.out.lt;obtain⟨z0,z1,z2,z3,z4,z5⟩:=cl6 a9;have df:=a9.frozen;have dl:=a9.lt;go_simp;try rw[six_def]
      refine hK.out _ _ ?_ (fun hHeld=>?_)
      ·exact((Fr.of_below ay.out).trans (six_fr w5 g4 (.slice fJ fF fD) (.slice fy fM fG) (.int .i64 fA) (.int .i64 fj) (.bool f5) (.int .i64 lf5)) (fun q hq=> .inl hq))
      clear hK K;try simp only[Act.put,zA,zB,zC]
      refine wpAnyH_done (by kernel_rfl) ?_ _;have ii:=qH (BoxT.store (az.out.below ay.out az.out.lt) mt.out (.inr ⟨Nat.le_refl _,by omega⟩));have eo:=qH (dw.out.trans ((Fr.of_below (D:=fun q=>q=g4) ay.out).trans (six_fr w5 g4 (.slice fJ fF fD) (.slice fy fM fG) (.int .i64 fA) (.int .i64 fj) (.bool f5) (.int .i64 lf5)) (fun q hq=> .inl hq)) (fun q hq=> .inl hq));generalize (sixC w5 g4 (.slice fJ fF fD) (.slice fy fM fG) (.int .i64 fA) (.int .i64 fj) (.bool f5) (.int .i64 lf5))=wf at ii eo hHeld⊢;clear hHeld;go_wp2;go_roundw
      case rel=>exact⟨j+1,by omega,by go_num,ii.out,eo.out⟩
      case measure=>simp[intOf];omega
     ·go_simp
      refine(mc.out _).mono ?_;rintro e wq⟨rfl,rfl⟩;refine hK.out _ _ ?_ (fun _=>?_)
      ·exact hHeld
      clear hK K;try simp only[Act.put,zA,zB,zC]
      refine tkC 6 ?_;refine rdA (rs:= [0]) ?_;refine arC (fun K hK=>?_);go_simp;refine hK.out _ _ ?_ (fun _=>?_)
      ·exact hHeld
      clear hK K;try simp only[Act.put,zA,zB,zC]
      refine rdA (rs:= [17]) ?_;refine arC (fun K hK=>?_);go_simp;refine(i7.out _ ((Below.refl wr.heap.size wr).drew)).mono ?_;rintro e w5⟨vq,rfl,fW,aq⟩;obtain⟨fJ,fF,fD,fy,fM,fG,fA,fj,f5,lf5,rfl⟩:=fW.sixn;have mt:=qH fW;have uE:Below wr.heap.size wr w5:=((Below.refl wr.heap.size wr).drew).trans aq;have ay:=qH uE;clear fW aq z0 z1 z2 z3 z4 z5;refine hK.out _ _ ?_ (fun hHeld=>?_)
      ·exact(Fr.of_below ay.out)
      clear hK K;try simp only[Act.put,zA,zB,zC]
      refine rdA (rs:= [18]) ?_;refine arC (fun K hK=>?_);have a9:=az.out.below ay.out az.out.lt;obtain⟨z0,z1,z2,z3,z4,z5⟩:=cl6 a9;have df:=a9.frozen;have dl:=a9.lt;go_simp;try rw[six_def]
      refine hK.out _ _ ?_ (fun hHeld=>?_)
      ·exact((Fr.of_below ay.out).trans (six_fr w5 g4 (.slice fJ fF fD) (.slice fy fM fG) (.int .i64 fA) (.int .i64 fj) (.bool f5) (.int .i64 lf5)) (fun q hq=> .inl hq))
      clear hK K;try simp only[Act.put,zA,zB,zC]
      refine wpAnyH_done (by kernel_rfl) ?_ _;have ii:=qH (BoxT.store (az.out.below ay.out az.out.lt) mt.out (.inr ⟨Nat.le_refl _,by omega⟩));have eo:=qH (dw.out.trans ((Fr.of_below (D:=fun q=>q=g4) ay.out).trans (six_fr w5 g4 (.slice fJ fF fD) (.slice fy fM fG) (.int .i64 fA) (.int .i64 fj) (.bool f5) (.int .i64 lf5)) (fun q hq=> .inl hq)) (fun q hq=> .inl hq));generalize (sixC w5 g4 (.slice fJ fF fD) (.slice fy fM fG) (.int .i64 fA) (.int .i64 fj) (.bool f5) (.int .i64 lf5))=wf at ii eo hHeld⊢;clear hHeld;go_wp2;go_roundw
      case rel=>exact⟨j+1,by omega,by go_num,ii.out,eo.out⟩
      case measure=>simp[intOf];omega
    ·have Fz:j=4:=by omega
     subst Fz;have E2:=qH bz;have DQ:=qH ax;clear bz ax;go_wp2;go_roundw
     case rel=>exact⟨k+1,by omega,by go_num,by rw[show(k+1)*4=k*4+4 by omega];exact E2.out,DQ.out⟩
     case measure=>simp[intOf];omega
  ·have hkk:k=L:=by omega
   subst hkk;obtain⟨aS,nS,cS,aL,nL,cL,cw,cf,f,lf,hblk,htr⟩:=wg.out;obtain⟨sm,hsm⟩:∃sm,sm=SS (k*4):=⟨_,rfl⟩
   have hgo:=rU.out;rw[←hsm] at htr hgo;have bE:=pi.out (k*4) (by omega);rw[←hsm] at bE;have hfl:=refflush_any htr bE.1 (fun q hq=>Nat.lt_of_lt_of_le (AU.out q hq) uq.out.size);have eW:=bE.1.flush;have ln:sm.flush.loose.length<60000:=Nat.lt_of_le_of_lt (flush_loose sm) bE.2;obtain⟨s2,hs2⟩:∃s2,s2=sm.flush:=⟨_,rfl⟩
   rw[←hs2] at hfl eW ln hgo;obtain⟨s3,hs3⟩:∃s3,s3=s2.write ((ep%2:Nat):Int) (Str.headL ep ar k):=⟨_,rfl⟩
   have wU:OK s3:=by rw[hs3];exact eW.write _ _ (by omega)
   rw[←hs3] at hgo;have iX:=qH hfl;have az:=qH hblk;have lR:=qH eW;have tm:=qH ln;have yZ:=qH wU;have vz:=qH hs3;have HR:=qH hgo;obtain⟨z0,z1,z2,z3,z4,z5⟩:=cl6 hblk;clear htr hfl hblk bE eW wU ln hs2 hs3 hsm hgo;go_wp2_with fail
   go_at_call 44;refine iX.out.mono ?_;rintro e w5⟨vq,rfl,fW,aq⟩;obtain⟨fJ,fF,fD,fy,fM,fG,fA,fj,f5,lf5,rfl⟩:=fW.sixn;have a9:=az.out.below aq az.out.lt;obtain⟨z0,z1,z2,z3,z4,z5⟩:=cl6 a9;have df:=a9.frozen;have dl:=a9.lt;have ii:=qH (BoxT.store a9 fW (.inr ⟨Nat.le_refl _,by omega⟩));have eo:=qH (uq.out.trans ((Fr.of_below (D:=fun q=>q=g4) aq).trans (six_fr w5 g4 (.slice fJ fF fD) (.slice fy fM fG) (.int .i64 fA) (.int .i64 fj) (.bool f5) (.int .i64 lf5)) (fun q hq=> .inl hq)) (fun q hq=> .inl hq));clear a9 fW aq;go_wp2_with fail
   rw[six_def];clear z0 z1 z2 z3 z4 z5 df dl;generalize (sixC w5 g4 (.slice fJ fF fD) (.slice fy fM fG) (.int .i64 fA) (.int .i64 fj) (.bool f5) (.int .i64 lf5))=wr at ii eo⊢;obtain⟨aS,nS,cS,aL,nL,cL,cw,cf,f,lf,hblk,htr⟩:=ii.out;have hwr:=fun(X:World) (v:Value) (hX:Below wr.heap.size wr X) (hv:RB X v (Str.headL ep ar k))=>wr8_any ((ep%2:Nat):Int) _ (htr.below hX) lR.out (fun q hq=>Nat.lt_of_lt_of_le (AU.out q hq) (Nat.le_trans eo.out.size hX.size)) (by have:=tm.out;omega) hv
   rw[←vz.out] at hwr;have i7:=qH hwr;have az:=qH hblk;clear hblk htr hwr;refine wp_region_held_drew (S:=fun X=>Fr (fun q=>q=g4) wr X) (by kernel_rfl) ((Fr.refl _ _).drew) (fun hHeld=>?_);refine tkC 1 ?_;refine tkC 2 ?_;refine tkC 3 ?_;refine tkC 4 ?_;refine tkC 5 ?_;refine tkC 6 ?_;refine rdA (rs:= [0,7]) ?_;refine AllReadyH.cons (o:=⟨some 69,.load 29 (.tmp 4),29,"ref.go:85",#[],none⟩) rfl (fun K hK=>?_) (AllReadyH.cons (o:=⟨some 76,.call ⟨.value (.func 82),#[.tmp 72,.tmp 73,.tmp 75],#[3,3,3]⟩,46,"ref.go:85",#[⟨3,.data⟩,⟨4,.data⟩,⟨6,.data⟩],none⟩) rfl (fun K hK=>?_) AllReadyH.nil)
   ·have z0:=(az.out.below (Below.refl wr.heap.size wr) az.out.lt).cell 0
    have z1:=(az.out.below (Below.refl wr.heap.size wr) az.out.lt).cell 1;have z2:=(az.out.below (Below.refl wr.heap.size wr) az.out.lt).cell 2;have z3:=(az.out.below (Below.refl wr.heap.size wr) az.out.lt).cell 3;have z4:=(az.out.below (Below.refl wr.heap.size wr) az.out.lt).cell 4;have z5:=(az.out.below (Below.refl wr.heap.size wr) az.out.lt).cell 5;simp at z0 z1 z2 z3 z4 z5;go_simp;clear z0 z1 z2 z3 z4 z5;refine hK.out _ _ ?_ (fun _=>?_)
    ·exact hHeld
    clear hK K;try simp only[Act.put,zA,zB,zC]
    refine rdA (rs:= [7]) ?_;refine arC (fun K hK=>?_);go_simp;refine(sV.out _).mono ?_;rintro e w6⟨v6,rfl,bG,au⟩;have tI:=qH (RB.own bG);obtain⟨A6,c6,rfl,_⟩:=own_shape bG;have s0:Below wr.heap.size wr w6:=((Below.refl wr.heap.size wr).drew).trans au;have aG:=qH s0;clear bG au;refine hK.out _ _ ?_ (fun hHeld=>?_)
    ·exact(Fr.of_below aG.out)
    clear hK K;try simp only[Act.put,zA,zB,zC]
    refine rdA (rs:= [8]) ?_;refine arC (fun K hK=>?_);go_simp;refine(i7.out _ _ aG.out tI.out).mono ?_;rintro e w7⟨EX,rfl,jx,bR⟩;obtain⟨gd,fY,fZ,fX,gh,fQ,fT,fV,f7,lf7,rfl⟩:=jx.sixn;have tb:=qH jx;have bJ:=qH (aG.out.trans (bR.mono aG.out.size));clear jx bR;refine hK.out _ _ ?_ (fun hHeld=>?_)
    ·exact(Fr.of_below bJ.out)
    clear hK K;try simp only[Act.put,zA,zB,zC]
    refine rdA (rs:= [9]) ?_;refine arC (fun K hK=>?_);have a9:=az.out.below bJ.out az.out.lt;obtain⟨z0,z1,z2,z3,z4,z5⟩:=cl6 a9;have df:=a9.frozen;have dl:=a9.lt;go_simp;try rw[six_def]
    refine hK.out _ _ ?_ (fun hHeld=>?_)
    ·exact((Fr.of_below bJ.out).trans (six_fr w7 g4 (.slice gd fY fZ) (.slice fX gh fQ) (.int .i64 fT) (.int .i64 fV) (.bool f7) (.int .i64 lf7)) (fun q hq=> .inl hq))
    clear hK K;try simp only[Act.put,zA,zB,zC]
    refine wpAnyH_done (by kernel_rfl) ?_ _;have nm:=qH (BoxT.store (az.out.below bJ.out az.out.lt) tb.out (.inr ⟨Nat.le_refl _,by omega⟩));have kL:=qH (eo.out.trans ((Fr.of_below (D:=fun q=>q=g4) bJ.out).trans (six_fr w7 g4 (.slice gd fY fZ) (.slice fX gh fQ) (.int .i64 fT) (.int .i64 fV) (.bool f7) (.int .i64 lf7)) (fun q hq=> .inl hq)) (fun q hq=> .inl hq));clear a9 z0 z1 z2 z3 z4 z5 df dl;generalize (sixC w7 g4 (.slice gd fY fZ) (.slice fX gh fQ) (.int .i64 fT) (.int .i64 fV) (.bool f7) (.int .i64 lf7))=wf at nm kL hHeld⊢;clear hHeld;obtain⟨aS,nS,cS,aL,nL,cL,cw,cf,f,lf,hblk,htr⟩:=nm.out;have hfl:=refflush_any htr yZ.out (fun q hq=>Nat.lt_of_lt_of_le (AU.out q hq) kL.out.size);rw[←HR.out] at hfl;have sI:=qH hfl;have rJ:=qH (show Dv.Blk wf (g4+1) 29 _ from qm.out.same (kL.out.block (g4+1) qm.out.lt (by omega)));obtain⟨z0,z1,z2,z3,z4,z5⟩:=cl6 hblk;clear htr hfl;go_wp2_with fail
    go_at_call 44;refine sI.out.mono ?_;rintro e w9⟨BG,rfl,js,fx⟩;obtain⟨gJ,gE,gl,gx,gT,gm,io,gw,f9,lf9,rfl⟩:=js.sixn;have ex:=rJ.out.below fx rJ.out.lt;obtain⟨z0,z1,z2,z3,z4,z5⟩:=cl6 ex;have df:=ex.frozen;have dl:=ex.lt;have qr:=qH js;have fP:=qH fx;have lM:=qH ex;clear ex js fx hblk;have nJ:=six_here lM.out (.slice gJ gE gl) (.slice gx gT gm) (.int .i64 io) (.int .i64 gw) (.bool f9) (.int .i64 lf9);have jS:=((kL.out.mono (E:=fun q=>q=g4∨q=g4+1) (fun q hq=> .inl hq)).trans ((Fr.of_below (D:=fun q=>q=g4∨q=g4+1) fP.out).trans (six_fr w9 (g4+1) (.slice gJ gE gl) (.slice gx gT gm) (.int .i64 io) (.int .i64 gw) (.bool f9) (.int .i64 lf9)) (fun q hq=> .inl (.inr hq))) (fun q hq=> .inl hq))
    have eE:=qH jS;clear jS;go_wp2_with (rw[six_def];refine bodyPost_ret (v:= .tuple #[.agg #[.slice gJ gE gl,.slice gx gT gm,.int .i64 io,.int .i64 gw,.bool f9,.int .i64 lf9],.bool true]) (leaveL rfl rfl nJ) rfl ⟨_,rfl,(qr.out.st (six_fr w9 (g4+1) (.slice gJ gE gl) (.slice gx gT gm) (.int .i64 io) (.int .i64 gw) (.bool f9) (.int .i64 lf9)) (fun q hq=>by omega)).down_,pz.out.trans (eE.out.below (fun q hq=>by have:=b7.out;omega) pz.out.size)⟩)
    
   ·go_simp
    refine(sV.out _).mono ?_;rintro e w6⟨v6,rfl,bG,au⟩;have tI:=qH (RB.own bG);obtain⟨A6,c6,rfl,_⟩:=own_shape bG;have s0:Below wr.heap.size wr w6:=((Below.refl wr.heap.size wr).drew).trans au;have aG:=qH s0;clear bG au;refine hK.out _ _ ?_ (fun hHeld=>?_)
    ·exact(Fr.of_below aG.out)
    clear hK K;try simp only[Act.put,zA,zB,zC]
    refine rdA (rs:= [0]) ?_;refine arC (fun K hK=>?_);obtain⟨z0,z1,z2,z3,z4,z5⟩:=cl6 (az.out.below aG.out az.out.lt);go_simp;clear z0 z1 z2 z3 z4 z5;refine hK.out _ _ ?_ (fun _=>?_)
    ·exact hHeld
    clear hK K;try simp only[Act.put,zA,zB,zC]
    refine rdA (rs:= [8]) ?_;refine arC (fun K hK=>?_);go_simp;refine(i7.out _ _ aG.out tI.out).mono ?_;rintro e w7⟨EX,rfl,jx,bR⟩;obtain⟨gd,fY,fZ,fX,gh,fQ,fT,fV,f7,lf7,rfl⟩:=jx.sixn;have tb:=qH jx;have bJ:=qH (aG.out.trans (bR.mono aG.out.size));clear jx bR;refine hK.out _ _ ?_ (fun hHeld=>?_)
    ·exact(Fr.of_below bJ.out)
    clear hK K;try simp only[Act.put,zA,zB,zC]
    refine rdA (rs:= [9]) ?_;refine arC (fun K hK=>?_);have a9:=az.out.below bJ.out az.out.lt;obtain⟨z0,z1,z2,z3,z4,z5⟩:=cl6 a9;have df:=a9.frozen;have dl:=a9.lt;go_simp;try rw[six_def]
    refine hK.out _ _ ?_ (fun hHeld=>?_)
    ·exact((Fr.of_below bJ.out).trans (six_fr w7 g4 (.slice gd fY fZ) (.slice fX gh fQ) (.int .i64 fT) (.int .i64 fV) (.bool f7) (.int .i64 lf7)) (fun q hq=> .inl hq))
    clear hK K;try simp only[Act.put,zA,zB,zC]
    refine wpAnyH_done (by kernel_rfl) ?_ _;have nm:=qH (BoxT.store (az.out.below bJ.out az.out.lt) tb.out (.inr ⟨Nat.le_refl _,by omega⟩));have kL:=qH (eo.out.trans ((Fr.of_below (D:=fun q=>q=g4) bJ.out).trans (six_fr w7 g4 (.slice gd fY fZ) (.slice fX gh fQ) (.int .i64 fT) (.int .i64 fV) (.bool f7) (.int .i64 lf7)) (fun q hq=> .inl hq)) (fun q hq=> .inl hq));clear a9 z0 z1 z2 z3 z4 z5 df dl;generalize (sixC w7 g4 (.slice gd fY fZ) (.slice fX gh fQ) (.int .i64 fT) (.int .i64 fV) (.bool f7) (.int .i64 lf7))=wf at nm kL hHeld⊢;clear hHeld;obtain⟨aS,nS,cS,aL,nL,cL,cw,cf,f,lf,hblk,htr⟩:=nm.out;have hfl:=refflush_any htr yZ.out (fun q hq=>Nat.lt_of_lt_of_le (AU.out q hq) kL.out.size);rw[←HR.out] at hfl;have sI:=qH hfl;have rJ:=qH (show Dv.Blk wf (g4+1) 29 _ from qm.out.same (kL.out.block (g4+1) qm.out.lt (by omega)));obtain⟨z0,z1,z2,z3,z4,z5⟩:=cl6 hblk;clear htr hfl;go_wp2_with fail
    go_at_call 44;refine sI.out.mono ?_;rintro e w9⟨BG,rfl,js,fx⟩;obtain⟨gJ,gE,gl,gx,gT,gm,io,gw,f9,lf9,rfl⟩:=js.sixn;have ex:=rJ.out.below fx rJ.out.lt;obtain⟨z0,z1,z2,z3,z4,z5⟩:=cl6 ex;have df:=ex.frozen;have dl:=ex.lt;have qr:=qH js;have fP:=qH fx;have lM:=qH ex;clear ex js fx hblk;have nJ:=six_here lM.out (.slice gJ gE gl) (.slice gx gT gm) (.int .i64 io) (.int .i64 gw) (.bool f9) (.int .i64 lf9);have jS:=((kL.out.mono (E:=fun q=>q=g4∨q=g4+1) (fun q hq=> .inl hq)).trans ((Fr.of_below (D:=fun q=>q=g4∨q=g4+1) fP.out).trans (six_fr w9 (g4+1) (.slice gJ gE gl) (.slice gx gT gm) (.int .i64 io) (.int .i64 gw) (.bool f9) (.int .i64 lf9)) (fun q hq=> .inl (.inr hq))) (fun q hq=> .inl hq))
    have eE:=qH jS;clear jS;go_wp2_with (rw[six_def];refine bodyPost_ret (v:= .tuple #[.agg #[.slice gJ gE gl,.slice gx gT gm,.int .i64 io,.int .i64 gw,.bool f9,.int .i64 lf9],.bool true]) (leaveL rfl rfl nJ) rfl ⟨_,rfl,(qr.out.st (six_fr w9 (g4+1) (.slice gJ gE gl) (.slice gx gT gm) (.int .i64 io) (.int .i64 gw) (.bool f9) (.int .i64 lf9)) (fun q hq=>by omega)).down_,pz.out.trans (eE.out.below (fun q hq=>by have:=b7.out;omega) pz.out.size)⟩)
def TRs(A:Nat→Prop)(w:World)(tv:Value)(x:Ss):Prop:=∃aS nS cS aL nL cL cw cf f lf aR nR cR,tv= .agg #[.slice aS nS cS,.slice aL nL cL,.int .i64 cw,.int .i64 cf,.bool f,.int .i64 lf,.slice aR nR cR,.int .i64 (x.ep:Int),.int .i64 (x.ar:Int),.int .i64 (x.us:Int),.int .i64 (x.fr:Int)]∧TRd A w (.agg #[.slice aS nS cS,.slice aL nL cL,.int .i64 cw,.int .i64 cf,.bool f,.int .i64 lf]) x.d∧RRd A w (.slice aR nR cR) x.rows
section
variable {A A' D:Nat→Prop} {w w':World} {tv:Value} {x:Ss} {n m:Nat}
theorem TRs.fr(h:TRs A w tv x)(hf:Fr D w w')(hD:∀k,D k→A k)(hA:∀k,A' k→A k∨w.heap.size≤k):TRs A' w' tv x:=by
 obtain⟨aS,nS,cS,aL,nL,cL,cw,cf,f,lf,aR,nR,cR,h1,h2,h3⟩:=h;exact⟨aS,nS,cS,aL,nL,cL,cw,cf,f,lf,aR,nR,cR,h1,h2.fr hf hD hA,h3.fr hf hD hA⟩
theorem TRs.below(h:TRs A w tv x)(hb:Below w.heap.size w w'):TRs A w' tv x:=h.fr (D:=fun _=>False) (Fr.of_below hb) (fun _ h=>h.elim) (fun _ h=> .inl h)
theorem TRs.down_(h:TRs (Up A n m) w tv x):TRs A w tv x:=h.fr (D:=fun _=>False) (Fr.refl _ _) (fun _ h=>h.elim) (fun k hk=> .inl (.inl hk))
theorem TRs.st(h:TRs (Up A n m) w tv x)(hf:Fr D w w')(hD:∀k,D k→n≤k∧k<m):TRs (Up A n m) w' tv x:=h.fr hf (fun k hk=> .inr (hD k hk)) (fun _ h=> .inl h)
theorem fb_rad{e:TypeId}{base:Nat}{v:Value}{l:List UInt8}(h:FB e w base v l)(hA:∀k,A k→k<base):RAd A w v l:=by
 refine⟨h.rb,fun hl k hk ha=>?_⟩;rcases h with ⟨_,h0⟩|⟨g,c,cur,fr,rfl,hb,_⟩
 ·exact hl h0
 ·have hkb:g=k:=by simpa [Value.ownBlock] using hk
  subst hkb;have:=hA _ ha;omega
theorem or_rrd{eR:TypeId}{base:Nat}{v:Value}{rs:List Rw}(h:OR 5 eR w base v rs)(hA:∀k,A k→k<base):RRd A w v rs:=by
 obtain⟨us,rfl,ho,hf⟩:=h;exact RVP.own ho (fun x hx=>fb_rad (hf x hx) hA) hA
theorem oc_crd{eR:TypeId}{base:Nat}{v:Value}{rs:List Chg}(h:OC 5 eR w base v rs)(hA:∀k,A k→k<base):CRd A w v rs:=by
 obtain⟨us,rfl,ho,hf⟩:=h;rcases ho.2 with ⟨rfl,h0⟩|⟨g,cap,cur,rfl,hb,hg,hnc,hcm,hcs,ht⟩
 ·have:us= []:=List.eq_nil_of_length_eq_zero h0
  subst this;exact⟨none,0,rfl,Nat.le_refl _,Nat.zero_le _,.inl rfl⟩
 ·refine⟨some ⟨g,0,none⟩,cap,by rw[List.length_map],by rw[List.length_map];exact hnc,hcm,.inr ⟨g,0,rfl,(Array.getElem?_eq_some_iff.1 hg).1,fun j hj=>?_⟩⟩
  rw[List.length_map] at hj;obtain⟨c1,c2,c3⟩:=chCells_get us j hj;have h1:=ho.cells (g:=g) rfl _ _ c1;have h2:=ho.cells (g:=g) rfl _ _ c2;have h3:=ho.cells (g:=g) rfl _ _ c3;rw[Addr.add_lit] at h1 h2 h3;refine⟨by simpa using h1,⟨us[j].2,by simpa [Nat.add_assoc] using h2,?_⟩,by simpa [Nat.add_assoc] using h3⟩;have:=fb_rad (hf us[j] (List.getElem_mem hj)) hA
  simpa using this
end
theorem row_blk{w:World}{g:Nat}{t:TypeId}{old:Array Value}(h:Dv.Blk w g t old)(cs:Array Value):Dv.Blk (w.setRow g cs) g t cs:=setRow_heap w g old cs t (0,0) h
theorem row_fr(w:World)(g:Nat)(cs:Array Value):Fr (fun j=>j=g) w (w.setRow g cs):=(Fr.refl (fun j=>j=g) w).setRow (b:=g) (.inl rfl) cs
theorem info42:(Tryz.prog.info? 42).map (fun i=>(i.zero,i.size))=some (some (.agg #[.slice none 0 0,.slice none 0 0,.int .i64 0,.int .i64 0,.bool false,.int .i64 0,.slice none 0 0,.int .i64 0,.int .i64 0,.int .i64 0,.int .i64 0]),11):=by kernel_rfl
theorem elv42(v0 v1 v2 v3 v4 v5 v6 v7 v8 v9 v10:Value):(Tryz.prog.info? 42).map (·.size)=some (#[v0,v1,v2,v3,v4,v5,v6,v7,v8,v9,v10]:Array Value).size:=by
 cases h:Tryz.prog.info? 42 with
 |none=>have:=info42;rw[h] at this;cases this
 |some i=>
  have:=info42;rw[h] at this;simp only[Option.map_some,Option.some.injEq,Prod.mk.injEq] at this;rw[Option.map_some,this.2];rfl
theorem all11(aS aL aR:Option Addr)(nS cS nL cL nR cR:Nat)(cw cf lf i0 i1 i2 i3:Int)(f:Bool):(#[.slice aS nS cS,.slice aL nL cL,.int .i64 cw,.int .i64 cf,.bool f,.int .i64 lf,.slice aR nR cR,.int .i64 i0,.int .i64 i1,.int .i64 i2,.int .i64 i3]:Array Value).all (·.oneCell')=true:=by simp[Value.oneCell']
theorem all6(aS aL:Option Addr)(nS cS nL cL:Nat)(cw cf lf:Int)(f:Bool):(#[.slice aS nS cS,.slice aL nL cL,.int .i64 cw,.int .i64 cf,.bool f,.int .i64 lf]:Array Value).all (·.oneCell')=true:=by simp[Value.oneCell']
theorem leaveO8{W:World}{tmps:Array Value}{g:Nat}{z0 z1 z2 z3 z4 z5 z6 z7 z8 z9 bN d:Value}(h4:tmps.getD 2 undef= .pointer (some ⟨g,0,none⟩))(h5:tmps.getD 3 undef=d)(hb:Dv.Blk W g 42 #[z0,z1,z2,z3,z4,z5,z6,z7,z8,z9,bN]):
  (results Tryz.f15 tmps).run Tryz.prog W= .ok (.tuple #[.agg #[z0,z1,z2,z3,z4,z5,z6,z7,z8,z9,bN],d]) W:=by
 obtain⟨r0,r1,r2,r3,r4,r5,r6,r7,r8,r9,x7⟩:=cl11 hb;rw[Array.getD_eq_getD_getElem?] at h4 h5;simp[results,h4,h5,r0,r1,r2,r3,r4,r5,r6,r7,r8,r9,x7,go_sem]
theorem leaveC8{W:World}{tmps:Array Value}{g:Nat}{z0 z1 z2 z3 z4 z5 z6 z7 z8 z9 bN d:Value}(h4:tmps.getD 4 undef= .pointer (some ⟨g,0,none⟩))(h5:tmps.getD 5 undef=d)(hb:Dv.Blk W g 42 #[z0,z1,z2,z3,z4,z5,z6,z7,z8,z9,bN]):
  (results Tryz.f24 tmps).run Tryz.prog W= .ok (.tuple #[.agg #[z0,z1,z2,z3,z4,z5,z6,z7,z8,z9,bN],d]) W:=by
 obtain⟨r0,r1,r2,r3,r4,r5,r6,r7,r8,r9,x7⟩:=cl11 hb;rw[Array.getD_eq_getD_getElem?] at h4 h5;simp[results,h4,h5,r0,r1,r2,r3,r4,r5,r6,r7,r8,r9,x7,go_sem]
theorem leaveK8{W:World}{tmps:Array Value}{g:Nat}{z0 z1 z2 z3 z4 z5 z6 z7 z8 z9 bN d:Value}(h4:tmps.getD 2 undef= .pointer (some ⟨g,0,none⟩))(h5:tmps.getD 3 undef=d)(hb:Dv.Blk W g 42 #[z0,z1,z2,z3,z4,z5,z6,z7,z8,z9,bN]):
  (results Tryz.f19 tmps).run Tryz.prog W= .ok (.tuple #[.agg #[z0,z1,z2,z3,z4,z5,z6,z7,z8,z9,bN],d]) W:=by
 obtain⟨r0,r1,r2,r3,r4,r5,r6,r7,r8,r9,x7⟩:=cl11 hb;rw[Array.getD_eq_getD_getElem?] at h4 h5;simp[results,h4,h5,r0,r1,r2,r3,r4,r5,r6,r7,r8,r9,x7,go_sem]
def GivesT8(A:Nat→Prop)(w:World)(x:Ss)(n:Nat)(e:Ending)(w':World):Prop:=∃ma,e= .returned (.tuple #[ma,.int .i64 (n:Int)])∧TRs A w' ma x∧Below w.heap.size w w'
theorem trs_mk{A:Nat→Prop}{w:World}{x:Ss}{aS aL:Option Addr}{nS cS nL cL:Nat}{cw cf lf:Int}{f:Bool}{aR:Option Addr}{nR cR:Nat}(h1:TRd A w (.agg #[.slice aS nS cS,.slice aL nL cL,.int .i64 cw,.int .i64 cf,.bool f,.int .i64 lf]) x.d)(h2:RRd A w (.slice aR nR cR) x.rows):TRs A w (.agg #[.slice aS nS cS,.slice aL nL cL,.int .i64 cw,.int .i64 cf,.bool f,.int .i64 lf,.slice aR nR cR,.int .i64 (x.ep:Int),.int .i64 (x.ar:Int),.int .i64 (x.us:Int),.int .i64 (x.fr:Int)]) x:=⟨_,_,_,_,_,_,_,_,_,_,_,_,_,rfl,h1,h2⟩
theorem ck8_over{A:Nat→Prop}{w:World}{tv:Value}{x:Ss}(h:TRs A w tv x)(hA:∀k,A k→k<w.heap.size)(he:x.ep=1073741824):
  Calls Tryz.prog 19 #[tv] w (GivesT8 A w x 32):=by
 obtain⟨aS,nS,cS,aL,nL,cL,cw,cf,f,lf,aR,nR,cR,rfl,hT0,eX⟩:=h;obtain⟨W1,hW1⟩:∃W1,W1=((w.alloc (Obj.cells #[.slice aS nS cS,.slice aL nL cL,.int .i64 cw,.int .i64 cf,.bool f,.int .i64 lf,.slice aR nR cR,.int .i64 (x.ep:Int),.int .i64 (x.ar:Int),.int .i64 (x.us:Int),.int .i64 (x.fr:Int)] 42)).alloc (Obj.cells #[.slice none 0 0,.slice none 0 0,.int .i64 0,.int .i64 0,.bool false,.int .i64 0,.slice none 0 0,.int .i64 0,.int .i64 0,.int .i64 0,.int .i64 0] 42)):=⟨_,rfl⟩
 have ai:Below w.heap.size w W1:=by rw[hW1];exact below2 w _ _
 have hs1:W1.heap.size=w.heap.size+2:=by rw[hW1];simp
 have hb1:Dv.Blk W1 w.heap.size 42 #[.slice aS nS cS,.slice aL nL cL,.int .i64 cw,.int .i64 cf,.bool f,.int .i64 lf,.slice aR nR cR,.int .i64 (x.ep:Int),.int .i64 (x.ar:Int),.int .i64 (x.us:Int),.int .i64 (x.fr:Int)]:=by rw[hW1];exact heap_alloc2_old w _ _
 have hb2:Dv.Blk W1 (w.heap.size+1) 42 #[.slice none 0 0,.slice none 0 0,.int .i64 0,.int .i64 0,.bool false,.int .i64 0,.slice none 0 0,.int .i64 0,.int .i64 0,.int .i64 0,.int .i64 0]:=by rw[hW1];exact heap_alloc2_new w _ _
 have hT:TRd (Up A w.heap.size (w.heap.size+2)) W1 (.agg #[.slice aS nS cS,.slice aL nL cL,.int .i64 cw,.int .i64 cf,.bool f,.int .i64 lf]) x.d:=hT0.up_ ai (Nat.le_refl _);have dy:RRd (Up A w.heap.size (w.heap.size+2)) W1 (.slice aR nR cR) x.rows:=eX.up_ ai (Nat.le_refl _);have cy:∀k,Up A w.heap.size (w.heap.size+2) k→k<W1.heap.size:=up_lt hA (by omega) ai.size;have it:=qH (trs_mk hT dy);obtain⟨q,hq⟩:∃q:Int,q=((x.ep:Nat):Int):=⟨_,rfl⟩
 have hq2:q=1073741824:=by omega
 rw[←hq] at hW1 hb1 it;rw[←hq];subst hq2;have bo:=qH hb2;have aw:=qH ai;have dM:=qH hW1;clear hA he ai hs1 hb1 hb2 hT dy cy hW1 hq hT0 eX;go_enter Tryz.func19,Tryz.ntmps19;obtain⟨g4,hg4⟩:∃g4,g4=w.heap.size+1:=⟨_,rfl⟩
 rw[←hg4] at bo;have b7:=qH hg4;clear hg4;go_wp2_with (first|(rw[←dM.out,←b7.out];(refine wpList_store_row rfl 42 (.tmp 2) (.tmp 9) rfl g4 #[.slice aS nS cS,.slice aL nL cL,.int .i64 cw,.int .i64 cf,.bool f,.int .i64 lf,.slice aR nR cR,.int .i64 1073741824,.int .i64 (x.ar:Int),.int .i64 (x.us:Int),.int .i64 (x.fr:Int)] rfl rfl 42 #[.slice none 0 0,.slice none 0 0,.int .i64 0,.int .i64 0,.bool false,.int .i64 0,.slice none 0 0,.int .i64 0,.int .i64 0,.int .i64 0,.int .i64 0] bo.out (elv42 _ _ _ _ _ _ _ _ _ _ _) rfl (all11 _ _ _ _ _ _ _ _ _ _ _ _ _ _ _ _ _) ?_))|(refine bodyPost_ret (v:= .tuple #[.agg #[.slice aS nS cS,.slice aL nL cL,.int .i64 cw,.int .i64 cf,.bool f,.int .i64 lf,.slice aR nR cR,.int .i64 1073741824,.int .i64 (x.ar:Int),.int .i64 (x.us:Int),.int .i64 (x.fr:Int)],.int .i64 32]) (leaveK8 rfl rfl (row_blk bo.out _)) rfl ⟨_,rfl,(it.out.st (row_fr W1 g4 _) (fun q hq=>by have:=b7.out;omega)).down_,aw.out.trans ((row_fr W1 g4 _).below (fun q hq=>by have:=b7.out;omega) aw.out.size)⟩))
theorem ck8_any{A:Nat→Prop}{w:World}{tv:Value}{x:Ss}(h:TRs A w tv x)(hA:∀k,A k→k<w.heap.size)(hG:GoodX x)(he:x.ep<1073741824):
  Calls Tryz.prog 19 #[tv] w (GivesT8 A w (ckS x) 0):=by
 obtain⟨aS,nS,cS,aL,nL,cL,cw,cf,f,lf,aR,nR,cR,rfl,hT0,eX⟩:=h;obtain⟨W1,hW1⟩:∃W1,W1=((w.alloc (Obj.cells #[.slice aS nS cS,.slice aL nL cL,.int .i64 cw,.int .i64 cf,.bool f,.int .i64 lf,.slice aR nR cR,.int .i64 (x.ep:Int),.int .i64 (x.ar:Int),.int .i64 (x.us:Int),.int .i64 (x.fr:Int)] 42)).alloc (Obj.cells #[.slice none 0 0,.slice none 0 0,.int .i64 0,.int .i64 0,.bool false,.int .i64 0,.slice none 0 0,.int .i64 0,.int .i64 0,.int .i64 0,.int .i64 0] 42)):=⟨_,rfl⟩
 have ai:Below w.heap.size w W1:=by rw[hW1];exact below2 w _ _
 have hs1:W1.heap.size=w.heap.size+2:=by rw[hW1];simp
 have hb1:Dv.Blk W1 w.heap.size 42 #[.slice aS nS cS,.slice aL nL cL,.int .i64 cw,.int .i64 cf,.bool f,.int .i64 lf,.slice aR nR cR,.int .i64 (x.ep:Int),.int .i64 (x.ar:Int),.int .i64 (x.us:Int),.int .i64 (x.fr:Int)]:=by rw[hW1];exact heap_alloc2_old w _ _
 have hb2:Dv.Blk W1 (w.heap.size+1) 42 #[.slice none 0 0,.slice none 0 0,.int .i64 0,.int .i64 0,.bool false,.int .i64 0,.slice none 0 0,.int .i64 0,.int .i64 0,.int .i64 0,.int .i64 0]:=by rw[hW1];exact heap_alloc2_new w _ _
 have hT:TRd (Up A w.heap.size (w.heap.size+2)) W1 (.agg #[.slice aS nS cS,.slice aL nL cL,.int .i64 cw,.int .i64 cf,.bool f,.int .i64 lf]) x.d:=hT0.up_ ai (Nat.le_refl _);have dy:RRd (Up A w.heap.size (w.heap.size+2)) W1 (.slice aR nR cR) x.rows:=eX.up_ ai (Nat.le_refl _);have cy:∀k,Up A w.heap.size (w.heap.size+2) k→k<W1.heap.size:=up_lt hA (by omega) ai.size;obtain⟨ps,hps,hpl⟩:=hG.fit;have har:=hG.ar;have rd:=lay8_any (x.ep+1) (1-x.ar) hT hG.ok cy dy.rr hps (built_256 hps) hG.n hpl (by have:=hG.lo;omega) (by omega) (by omega);obtain⟨lD,kK⟩:∃a,a=1-x.ar:=⟨_,rfl⟩
 have cP:ckS x={d:=layS x.d (x.ep+1) lD ps,rows:=x.rows,ep:=x.ep+1,ar:=lD,us:=0,fr:=0}:=by unfold ckS;rw[hps,kK];rfl
 rw[←kK,show((x.ep+1:Nat):Int)=(x.ep:Int)+1 by omega] at rd;have sF:(1:Int)-(x.ar:Int)=(lD:Int):=by omega
 have FG:((x.ep:Int)==1073741824)=false:=by rw[beq_eq_false_iff_ne];omega
 obtain⟨y,hy⟩:∃y,y=ckS x:=⟨_,rfl⟩
 rw[←hy] at cP⊢;have ny:=qH cP;have CK:=qH rd;have bQ:=qH dy;have aD:=qH hb1;have bo:=qH hb2;have aw:=qH ai;have dM:=qH hW1;clear hA hG ai hs1 hb1 hb2 hT dy cy hW1 hT0 eX hps hpl rd kK cP hy;obtain⟨g2,hg2⟩:∃g2,g2=w.heap.size:=⟨_,rfl⟩
 obtain⟨g4,hg4⟩:∃g4,g4=w.heap.size+1:=⟨_,rfl⟩
 rw[←hg4] at bo;rw[←hg2] at aD;have b7:=qH hg4;have HG2:=qH hg2;clear hg4 hg2;go_enter Tryz.func19,Tryz.ntmps19;go_wp2_with fail
 rw[←dM.out,←b7.out,←HG2.out];try rw[sF]
 refine CK.out.mono ?_;rintro e w7⟨EX,rfl,jx,bR⟩;obtain⟨gd,fY,fZ,fX,gh,fQ,fT,fV,f7,lf7,rfl⟩:=jx.sixn;have tb:=qH jx;have tC:=qH (bQ.out.below bR);have bJ:=qH bR;have ao:=aD.out.below bR aD.out.lt;have zl:=ao.lt;obtain⟨z0,z1,z2,z3,z4,z5,z6,z7,z8,z9,bN⟩:=cl11 ao;clear jx bR ao;have cY:=qH ((bo.out.below bJ.out bo.out.lt).alloc (Obj.cells #[.slice gd fY fZ,.slice fX gh fQ,.int .i64 fT,.int .i64 fV,.bool f7,.int .i64 lf7] 29));have eE:=qH (((Fr.refl (fun j=>j=g4) w7).alloc (Obj.cells #[.slice gd fY fZ,.slice fX gh fQ,.int .i64 fT,.int .i64 fV,.bool f7,.int .i64 lf7] 29)).trans (row_fr (w7.alloc (Obj.cells #[.slice gd fY fZ,.slice fX gh fQ,.int .i64 fT,.int .i64 fV,.bool f7,.int .i64 lf7] 29)) g4 #[.slice gd fY fZ,.slice fX gh fQ,.int .i64 fT,.int .i64 fV,.bool f7,.int .i64 lf7,.slice aR nR cR,.int .i64 ((x.ep:Int)+1),.int .i64 (lD:Int),.int .i64 0,.int .i64 0]) (fun q hq=> .inl hq));go_wp2_with (first|(refine wpList_store_row rfl 42 (.tmp 2) (.tmp 33) rfl g4 #[.slice gd fY fZ,.slice fX gh fQ,.int .i64 fT,.int .i64 fV,.bool f7,.int .i64 lf7,.slice aR nR cR,.int .i64 ((x.ep:Int)+1),.int .i64 (lD:Int),.int .i64 0,.int .i64 0] rfl rfl 42 #[.slice none 0 0,.slice none 0 0,.int .i64 0,.int .i64 0,.bool false,.int .i64 0,.slice none 0 0,.int .i64 0,.int .i64 0,.int .i64 0,.int .i64 0] cY.out (elv42 _ _ _ _ _ _ _ _ _ _ _) rfl (all11 _ _ _ _ _ _ _ _ _ _ _ _ _ _ _ _ _) ?_)|(refine bodyPost_ret (v:= .tuple #[.agg #[.slice gd fY fZ,.slice fX gh fQ,.int .i64 fT,.int .i64 fV,.bool f7,.int .i64 lf7,.slice aR nR cR,.int .i64 ((x.ep:Int)+1),.int .i64 (lD:Int),.int .i64 0,.int .i64 0],.int .i64 0]) (leaveK8 rfl rfl (row_blk cY.out _)) rfl ?_))
 refine⟨_,rfl,?_,aw.out.trans (((Fr.of_below (D:=fun q=>q=g4) bJ.out).trans eE.out (fun q hq=> .inl hq)).below (fun q hq=>by have:=b7.out;omega) aw.out.size)⟩;have hg:=b7.out;rw[ny.out];exact trs_mk (x:={d:=layS x.d (x.ep+1) lD ps,rows:=x.rows,ep:=x.ep+1,ar:=lD,us:=0,fr:=0}) ((tb.out.st eE.out (fun q hq=>by omega)).down_) ((tC.out.st eE.out (fun q hq=>by omega)).down_)
theorem leaveF8{W:World}{tmps:Array Value}{g:Nat}{z0 z1 z2 z3 z4 z5 d:Value}(h4:tmps.getD 2 undef= .pointer (some ⟨g,0,none⟩))(h5:tmps.getD 3 undef=d)(hb:Dv.Blk W g 29 #[z0,z1,z2,z3,z4,z5]):
  (results Tryz.f13 tmps).run Tryz.prog W= .ok (.tuple #[.agg #[z0,z1,z2,z3,z4,z5],d]) W:=by
 obtain⟨r0,r1,r2,r3,r4,r5⟩:=cl6 hb;rw[Array.getD_eq_getD_getElem?] at h4 h5;simp[results,h4,h5,r0,r1,r2,r3,r4,r5,go_sem]
theorem format8_any{A:Nat→Prop}{w:World}{tv:Value}{s:Sim}(h:TRd A w tv s)(hok:OK s)(hA:∀k,A k→k<w.heap.size)(hn:64≤s.firm.length)(hl:s.loose.length≤40000):
  Calls Tryz.prog 13 #[tv] w (MadeD2 A w (formatS s) (.int .i64 0)):=by
 have HN:=hok.n;obtain⟨aS,cS,aL,cL,cw,cf,f,lf,rfl⟩:=h.six;obtain⟨W1,hW1⟩:∃W1,W1=((w.alloc (Obj.cells #[.slice aS s.firm.length cS,.slice aL s.loose.length cL,.int .i64 cw,.int .i64 cf,.bool f,.int .i64 lf] 29)).alloc (Obj.cells #[.slice none 0 0,.slice none 0 0,.int .i64 0,.int .i64 0,.bool false,.int .i64 0] 29)):=⟨_,rfl⟩
 have ai:Below w.heap.size w W1:=by rw[hW1];exact below2 w _ _
 have hs1:W1.heap.size=w.heap.size+2:=by rw[hW1];simp
 have hb4:Dv.Blk W1 w.heap.size 29 #[.slice aS s.firm.length cS,.slice aL s.loose.length cL,.int .i64 cw,.int .i64 cf,.bool f,.int .i64 lf]:=by rw[hW1];exact heap_alloc2_old w _ _
 have ec:Dv.Blk W1 (w.heap.size+1) 29 #[.slice none 0 0,.slice none 0 0,.int .i64 0,.int .i64 0,.bool false,.int .i64 0]:=by rw[hW1];exact heap_alloc2_new w _ _
 have hT:TRd (Up A w.heap.size (w.heap.size+2)) W1 (.agg #[.slice aS s.firm.length cS,.slice aL s.loose.length cL,.int .i64 cw,.int .i64 cf,.bool f,.int .i64 lf]) s:=h.up_ ai (Nat.le_refl _);have cy:∀k,Up A w.heap.size (w.heap.size+2) k→k<W1.heap.size:=up_lt hA (by omega) ai.size;have jz:=qH (show BoxT (Up A w.heap.size (w.heap.size+2)) W1 w.heap.size s from⟨_,_,_,_,_,_,_,_,_,_,hb4,hT⟩);obtain⟨n,hne⟩:∃n,n=s.firm.length:=⟨_,rfl⟩
 have ak:=fun X=>layout8_any (n:Int) (by omega) (by omega) X
 rw[layJ_nat,layA_nat] at ak;obtain⟨M,hM⟩:∃M,M=aN n:=⟨_,rfl⟩
 obtain⟨J,hJ⟩:∃J,J=jN n:=⟨_,rfl⟩
 have Jf:J≤1024:=by rw[hJ];have:=jN_le n;omega
 rw[←hM,←hJ] at ak;obtain⟨p,hp,hpl⟩:∃p,buildL []=some p∧p.length≤aN s.firm.length:=by
  obtain⟨p,hp⟩:=build_nil;have:=aN_pos hn;exact⟨[p],hp,by simp;omega⟩
 have hfo:formatS s=layS (writeL s 0 (List.replicate (2+J) []) (2+J)).flush 1 0 p:=by unfold formatS;rw[hp,hJ,hne];rfl
 obtain⟨SS,gG⟩:∃SS:Nat→Sim,SS=fun m=>writeL s 0 (List.replicate (2+J) []) m:=⟨_,rfl⟩
 have mF:SS 0=s:=by rw[gG];rfl
 have xt:∀m,SS (m+1)=(SS m).write (m:Int) []:=fun m=>by
  rw[gG];show(writeL s 0 _ m).write ((0+m:Nat):Int) _=_;have e:(List.replicate (2+J) ([]:List UInt8)).getD m []= []:=by
   rw[List.getD_eq_getElem?_getD,List.getElem?_replicate];split <;>rfl
  rw[Nat.zero_add,e]
 have vN:∀m,m≤2400→OK (SS m)∧(SS m).loose.length<43000∧(SS m).firm.length=s.firm.length:=fun m hm=>by
  rw[gG];exact⟨ok_writeL8 hok _ _ m (by omega),(by have:=writeL_loose s 0 (List.replicate (2+J) []) m;show(writeL s 0 (List.replicate (2+J) []) m).loose.length<43000;omega),congrArg List.length (writeL_firm s 0 _ m)⟩
 have tZ:formatS s=layS (SS (2+J)).flush 1 0 p:=by rw[hfo,gG]
 obtain⟨R,hR⟩:∃R,R=formatS s:=⟨_,rfl⟩
 rw[←hR] at tZ⊢;rw[←mF] at jz;rw[←hne] at hpl hW1 vN;have aZ:=qH ak;have jo:=qH xt;have pi:=qH vN;have rU:=qH tZ;have aw:=qH ai;have ga:=qH cy;have dP:=qH ec;have jy:=qH hs1;have dM:=qH hW1;have Ib:=qH hp;have cW:=qH hpl;have lg:¬(n:Int)<64:=by omega
 have dt:n≤4096:=by omega
 rw[←hne];clear h hok hA hn hl HN ai hs1 hb4 ec hT cy ak hM hJ hp hpl hfo gG mF xt vN tZ hR hW1 hne;obtain⟨g4,hg4⟩:∃g4,g4=w.heap.size:=⟨_,rfl⟩
 rw[←hg4] at jz dP jy ga;have b7:=qH hg4;clear hg4;go_enter Tryz.func13,Tryz.ntmps13;go_wp2_with (go_at_call 30;refine(aZ.out _).mono ?_;rintro e wq ⟨rfl,rfl⟩)
 rw[←dM.out,←b7.out]
 go_loopw [6] (fun i wr=>∃k:Nat,k≤2+J∧i= .int .i64 k∧BoxT (Up A g4 (g4+2)) wr g4 (SS k)∧Fr (fun j=>j=g4) W1 wr) (fun i _=>2+J-(intOf i).toNat)
 case atStart=>exact⟨0,Nat.zero_le _,rfl,jz.out,Fr.refl _ _⟩
 case round=>
  obtain⟨k,hk,rfl,bz,ax⟩:=hrel;obtain⟨aS,nS,cS,aL,nL,cL,cw,cf,f,lf,hblk,htr⟩:=bz;have dw:=qH ax;have bE:=pi.out k (by omega);have kX:=fun q hq=>Nat.lt_of_lt_of_le (ga.out q hq) ax.size
  by_cases hlt:k<2+J
  ·have hwr:=wr8_any (k:Int) [] htr bE.1 kX (by omega) (RB.nil_ _)
   rw[←jo.out] at hwr;obtain⟨s2,hs2⟩:∃s2,s2=SS (k+1):=⟨_,rfl⟩
   rw[←hs2] at hwr;have dX:=qH hs2;have i7:=qH hwr;have az:=qH hblk;obtain⟨z0,z1,z2,z3,z4,z5⟩:=cl6 hblk;clear htr hwr hs2 bE kX ax hblk;have q1:(k:Int)<2+(J:Int):=by omega
   go_wp2_with fail
   go_at_call 42;refine i7.out.mono ?_;rintro e w5⟨vq,rfl,fW,aq⟩;obtain⟨fJ,fF,fD,fy,fM,fG,fA,fj,f5,lf5,rfl⟩:=fW.sixn;have a9:=az.out.below aq az.out.lt;clear z0 z1 z2 z3 z4 z5;obtain⟨z0,z1,z2,z3,z4,z5⟩:=cl6 a9;have df:=a9.frozen;have dl:=a9.lt;have ii:=qH (BoxT.store a9 fW (.inr ⟨Nat.le_refl _,by omega⟩));have eo:=qH (dw.out.trans ((Fr.of_below (D:=fun q=>q=g4) aq).trans (six_fr w5 g4 (.slice fJ fF fD) (.slice fy fM fG) (.int .i64 fA) (.int .i64 fj) (.bool f5) (.int .i64 lf5)) (fun q hq=> .inl hq)) (fun q hq=> .inl hq));rw[dX.out] at ii;clear a9 fW aq;go_wp2;rw[six_def];go_roundw
   case rel=>exact⟨k+1,by omega,by go_num,ii.out,eo.out⟩
   case measure=>simp[intOf];omega
  ·have hkk:k=2+J:=by omega
   subst hkk;have hfl:=refflush_any htr bE.1 kX;have eW:=bE.1.flush;have ln:(SS (2+J)).flush.loose.length<43000:=Nat.lt_of_le_of_lt (flush_loose _) bE.2.1;have hfn:(SS (2+J)).flush.firm.length=n:=(flush_firm _).trans bE.2.2;have hgo:=rU.out;obtain⟨s2,hs2⟩:∃s2,s2=(SS (2+J)).flush:=⟨_,rfl⟩
   rw[←hs2] at hfl eW ln hgo hfn;have iX:=qH hfl;have az:=qH hblk;have lR:=qH eW;have tm:=qH ln;have G8:=qH hfn;have HR:=qH hgo;have jE:=qH kX;have rJ:=qH (dP.out.same (ax.block (g4+1) dP.out.lt (by omega)));have vA:¬((2+J:Nat):Int)<2+(J:Int):=by omega
   obtain⟨z0,z1,z2,z3,z4,z5⟩:=cl6 hblk;clear htr hfl hblk bE eW ln hs2 hgo kX ax hfn;go_wp2_with fail
   go_at_call 44;refine iX.out.mono ?_;rintro e w5⟨vq,rfl,fW,aq⟩;have hcall:=lay8_any (rs:= []) (ps:=p) 1 0 fW lR.out (fun q hq=>Nat.lt_of_lt_of_le (jE.out q hq) aq.size) (rr_nil w5) Ib.out (built_256 Ib.out) (by rw[G8.out];omega) (by rw[G8.out];exact cW.out) (by have:=tm.out;omega) (by decide) (by decide);rw[←HR.out] at hcall;obtain⟨fJ,fF,fD,fy,fM,fG,fA,fj,f5,lf5,rfl⟩:=fW.sixn;have fq:=qH hcall;have ay:=qH aq;clear hcall fW aq z0 z1 z2 z3 z4 z5;go_wp2_with fail
   go_at_call 43;refine fq.out.mono ?_;rintro e w9⟨BG,rfl,js,fx⟩;obtain⟨gJ,gE,gl,gx,gT,gm,io,gw,f9,lf9,rfl⟩:=js.sixn;have ua:=ay.out.trans (fx.mono ay.out.size);have a9:=rJ.out.below ua rJ.out.lt;obtain⟨z0,z1,z2,z3,z4,z5⟩:=cl6 a9;have df:=a9.frozen;have dl:=a9.lt;have qr:=qH js;have Cz:=qH ua;have lM:=qH a9;clear a9 js fx ua;have nJ:=(six_here lM.out (.slice gJ gE gl) (.slice gx gT gm) (.int .i64 io) (.int .i64 gw) (.bool f9) (.int .i64 lf9)).alloc (Obj.cells #[.slice gJ gE gl,.slice gx gT gm,.int .i64 io,.int .i64 gw,.bool f9,.int .i64 lf9] 29);have jS:=(six_fr w9 (g4+1) (.slice gJ gE gl) (.slice gx gT gm) (.int .i64 io) (.int .i64 gw) (.bool f9) (.int .i64 lf9)).alloc (Obj.cells #[.slice gJ gE gl,.slice gx gT gm,.int .i64 io,.int .i64 gw,.bool f9,.int .i64 lf9] 29);have eE:=qH jS;clear jS;go_wp2_with (rw[six_def];refine bodyPost_ret (v:= .tuple #[.agg #[.slice gJ gE gl,.slice gx gT gm,.int .i64 io,.int .i64 gw,.bool f9,.int .i64 lf9],.int .i64 0]) (leaveF8 rfl rfl nJ) rfl ⟨_,rfl,(qr.out.st eE.out (fun q hq=>by omega)).down_,aw.out.trans (((dw.out.mono (E:=fun q=>q=g4∨q=g4+1) (fun q hq=> .inl hq)).trans ((Fr.of_below (D:=fun q=>q=g4∨q=g4+1) Cz.out).trans eE.out (fun q hq=> .inl (.inr hq))) (fun q hq=> .inl hq)).below (fun q hq=>by have:=b7.out;omega) aw.out.size)⟩)
end Go.Proofs.YtmbkaedhllfoeaaGreat
