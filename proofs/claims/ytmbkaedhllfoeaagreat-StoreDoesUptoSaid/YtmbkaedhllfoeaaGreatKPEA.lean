/-
  Texts of the proof, put together.
-/
import Derived.Test.YtmbkaedhllfoeaaGreatKPDD
import Derived.Test.YtmbkaedhllfoeaaGreatKPDI
import Derived.Test.YtmbkaedhllfoeaaGreatKPDJ
import Derived.Test.YtmbkaedhllfoeaaGreatKPWr
set_option maxRecDepth 100000
set_option maxHeartbeats 4000000
set_option linter.unusedVariables false
namespace Go.Dv
open Go.RowKit Go.Rst
theorem Did.trans_{D E:Nat→Prop}{w w1 w2:World}{v:Value}{s2:Sim}(hF:Fr D w w1)(hk:∀k,E k→D k∨w.heap.size≤k)(h:Did E w1 v s2 w2):Did D w v s2 w2:=by
 obtain⟨G,hG,hF2,hk2⟩:=h;exact⟨G,hG,hF.trans hF2 hk,fun k hg=>by
  rcases hk2 k hg with h1|h1
  ·exact hk k h1
  ·exact .inr (Nat.le_trans hF.size h1)⟩
end Go.Dv
namespace Go.Proofs.YtmbkaedhllfoeaaGreat
open Go.RowKit Go.Rst Go.Dv Go.Crc Go.Str Go.Pg
def layS(s:Sim)(ep ar:Nat)(ps:List (List UInt8)):Sim:=
 ((writeL s (firstN s.firm.length ar) (chunkL64 ps.flatten) (chunkL64 ps.flatten).length).flush.write ((ep%2:Nat):Int) (Str.headL ep ar ps.length)).flush
theorem flush_firm(s:Sim):s.flush.firm.length=s.firm.length:=by
 unfold Sim.flush;split
 ·show(kept _ _ _ _).length=_;rw[kept_length];rfl
 ·rfl
theorem flush_loose(s:Sim):s.flush.loose.length≤s.loose.length:=by
 unfold Sim.flush;split
 ·exact Nat.zero_le _
 ·exact Nat.le_refl _
theorem layS_firm(s:Sim)(ep ar:Nat)(ps:List (List UInt8)):(layS s ep ar ps).firm.length=s.firm.length:=by
 unfold layS;rw[flush_firm,write_firm,flush_firm,writeL_firm]
theorem flat256:∀{ps:List (List UInt8)},(∀p∈ps,p.length=256)→ps.flatten.length=ps.length*256:=fun h=>flat_length h
theorem pn_one{w:World}{u:Value}{l:List UInt8}(h:RB w u l)(h1:∀q,u.ownBlock=some q→q<w.heap.size)(base:Nat)(h2:∀q,u.ownBlock=some q→base≤q)(hb:base≤w.heap.size):PN (w.alloc (.cells #[u] 46)) base (.slice (some ⟨w.heap.size,0,none⟩) 1 1) [l]:=by
 refine⟨some ⟨w.heap.size,0,none⟩,1,rfl,Nat.le_refl _,by decide,.inr ⟨w.heap.size,0,rfl,hb,by simp,fun j hj=>?_⟩⟩;obtain rfl:j=0:=by simpa using hj
 have hc:=cell_of_row (w.alloc (.cells #[u] 46)) w.heap.size 0 #[u] 46 (0,0) (heap_alloc_new w _);exact⟨u,hc,h.alloc _,fun _ q hq=>⟨h2 q hq,by have:=h1 q hq;simp;omega⟩⟩
theorem lay_st{D:Nat→Prop}{w:World}{v:Value}{s:Sim}(ep ar:Nat)(lv:Value)(rs:List Rw)(ps:List (List UInt8))(h:Dev D w v s)(fg:ep≤1073741824)(har:ar≤1)(hr:RR w lv rs)(hps:buildL rs=some ps)(hne:ps≠ [])(bj:∀p∈ps,p.length=256)
  (hn:64≤s.firm.length) (hfit:ps.length≤aN s.firm.length) (hl:s.loose.length≤50000):
  Calls Tryz.prog 41 #[dv v,.int .i64 (ep:Int),.int .i64 (ar:Int),lv] w fun e w'=>e= .returned (.tuple #[])∧Did D w v (layS s ep ar ps) w':=by
 have HN:=h.ok.n;have H:=qH h;have jO:=qH h.lt;obtain⟨g,rfl⟩:=dev_ptr h;have ha:=aN_le s.firm.length;have hp1:0<ps.length:=List.length_pos_iff.2 hne;have hpl:ps.length≤600:=by omega
 have hfl:=flat256 bj;obtain⟨bl,hbl⟩:∃bl,bl=ps.flatten:=⟨_,rfl⟩
 rw[←hbl] at hfl;have hlen:(chunkL64 bl).length=ps.length*4:=by unfold chunkL64;rw[List.length_map,List.length_range];unfold of64;omega
 have AV:=qH (build_any lv rs w hr);have fy:=qH hbl;have iJ:=qH hfl;have l9:=qH hlen;have pQ:=qH hps;have fZ:=qH hne;have ms:=firstN_le hn har hfit;have qQ:=qH ms;clear h hr hps hne hbl hfl hlen ha ms;go_enter Tryz.func41,Tryz.ntmps41;go_wp2_with fail
 go_at_call 74;refine AV.out.mono ?_;rintro e w1⟨p,rfl,hop,hb1⟩;rw[pQ.out] at hop⊢;simp only[Option.isSome,Option.getD_some] at hop⊢;obtain⟨A,c,rfl,hc1,hc2⟩:=hop.shape;have b8:=qH hop;have an:=qH hb1;clear hop hb1;go_wp2_with fail
 go_at_call 75;refine(first_any ar har (H.out.below an.out)).mono ?_;rintro e w1'⟨rfl,rfl⟩;obtain⟨qs,zv,zu⟩:=b8.out.pn.ps fZ.out;have cG:=cat_flatten zv;rw[←fy.out] at cG;have hcc:=concat_any _ qs w1 zu (by rw[cG,iJ.out];omega);rw[cG] at hcc;have qV:=qH hcc;clear hcc zv zu cG;go_wp2_with fail
 go_at_call 78;refine qV.out.mono ?_;rintro e w2⟨v2,rfl,aQ,hb2⟩;obtain⟨b2,c2,rfl⟩:=ownsRow_succ (k:=bl.length-1) (by rw[Nat.sub_add_cancel (by have:=iJ.out;omega)];exact aQ);rw[Nat.sub_add_cancel (by have:=iJ.out;omega)] at aQ⊢;have B4:=hb2;have fQ:=qH aQ;have ae:=qH hb2;clear aQ hb2 B4;go_wp2_with fail
 go_at_call 77;refine(chunk64_any _ w2 rfl).mono ?_;rintro e w3⟨rfl,hw3⟩;have hd3:=dc64_new (RB.own fQ.out);rw[←hw3] at hd3;have hb3:Below w2.heap.size w2 w3:=by rw[hw3];exact((Below.refl _ _).alloc (Nat.le_refl _) _).alloc (by simp) _
 have l8:=qH hd3;have ak:=qH hb3;clear hw3 hd3 hb3;go_wp2_with fail
 go_at_call 76;refine(coll64_any b2 0 c2 bl.length w2.heap.size bl w3 rfl l8.out (by have:=iJ.out;omega)).mono ?_;rintro e w4⟨sv,us,rfl,ah,kZ,hxs,hb4⟩;have nb:=ae.out.trans (((ak.out).trans (hb4.mono ak.out.size)).mono ae.out.size);have hw4:=an.out.trans (nb.mono an.out.size);have hO:w1.heap.size≤b2∧b2<w2.heap.size:=by
  rcases fQ.out.2 with ⟨h0,_⟩|⟨g',cap',cur',he',hbb',hg',_⟩
  ·cases h0
  ·injection he' with he' _ _;injection he' with he';injection he' with he' _;subst he';exact⟨hbb',(Array.getElem?_eq_some_iff.1 hg').1⟩
 have iV:=pieces_pn (base:=w1.heap.size) ah (own_base kZ (Nat.le_trans ae.out.size ak.out.size)) hxs ((RB.own fQ.out).below ((ak.out).trans (hb4.mono ak.out.size))) hO.1 (Nat.lt_of_lt_of_le hO.2 (Nat.le_trans ak.out.size hb4.size));have iE:=qH (iV.base_ an.out.size);have ai:=qH hw4;obtain⟨As,cs,rfl,_⟩:=own_shape kZ;clear ah kZ hxs hb4 nb hw4 hO iV;have hwr:=wr_any (firstN s.firm.length ar) _ (chunkL64 bl) w.heap.size (H.out.below ai.out) jO.out ai.out.size iE.out (by rw[l9.out];omega) (by have:=qQ.out;omega);have iK:=qH hwr;clear hwr;go_wp2_with fail
 go_at_call 39;refine iK.out.mono ?_;rintro e w5⟨rfl,E5,sb,pB,bD⟩;obtain⟨s5,hs5⟩:∃s5,s5=writeL s (firstN s.firm.length ar) (chunkL64 bl) (chunkL64 bl).length:=⟨_,rfl⟩
 rw[←hs5] at sb;have kr:s5.firm.length=s.firm.length:=by rw[hs5,writeL_firm]
 have iY:s5.loose.length≤60000:=by rw[hs5];have:=writeL_loose s (firstN s.firm.length ar) (chunkL64 bl) (chunkL64 bl).length;have h2:=l9.out;omega
 have iF:=qH hs5;have eH:=qH (Fr.trans (Fr.of_below (D:=D) ai.out) pB (fun k hk=> .inl hk));have fC:=qH (fun k hk=>by
  rcases bD k hk with h1|h1
  ·exact(.inl h1:D k∨w.heap.size≤k)
  ·exact .inr (Nat.le_trans ai.out.size h1))
 have EQ:=qH sb;clear hs5 sb pB bD;go_wp2_with fail
 go_at_call 40;refine(flush_any EQ.out).mono ?_;rintro e w6⟨rfl,qZ,vQ⟩;have oL:=qH (eH.out.trans qZ fC.out);have GO:=qH vQ;have k7:s5.flush.loose.length≤60000:=Nat.le_trans (flush_loose s5) iY;clear qZ vQ;go_wp2_with fail
 refine(headsec_any ep ar ps.length fg har (by omega) _).mono ?_;rintro e w7⟨u7,rfl,mr,br⟩;have pC:Below w6.heap.size w6 w7:=((Below.refl w6.heap.size w6).alloc (Nat.le_refl _) _).trans (br.mono (by simp));obtain⟨hd,oh⟩:∃hd,hd=Str.headL ep ar ps.length:=⟨_,rfl⟩
 rw[←oh] at mr;have B8:∀q,u7.ownBlock=some q→w6.heap.size≤q∧q<w7.heap.size:=fun q hq=>by
  rcases mr.2 with ⟨rfl,_⟩|⟨g7,c7,cur7,rfl,hbb7,oE,_⟩
  ·simp[Value.ownBlock] at hq
  ·simp[Value.ownBlock] at hq
   subst hq;rw[World.size_alloc] at hbb7;exact⟨by omega,(Array.getElem?_eq_some_iff.1 oE).1⟩
 have vC:=RB.own mr;have wo:=pn_one vC (fun q hq=>(B8 q hq).2) w6.heap.size (fun q hq=>(B8 q hq).1) pC.size;obtain⟨A7,c7,rfl,_⟩:=own_shape mr;have cz:=pC.alloc pC.size (.cells #[.slice A7 hd.length c7] 46);have yA:=GO.out.lt;have oy:=GO.out.below cz;have ub:=wr_any (ep%2) _ [hd] w6.heap.size oy yA cz.size wo (by simp;omega) (by omega);have hm2:((ep%2:Nat):Int)=(ep:Int)%2:=by omega
 rw[hm2] at ub;have D7:=qH ub;have cI:=qH cz;have ta:=qH oh;clear pC oh B8 vC wo cz yA oy ub mr br hm2;go_wp2_with fail
 go_at_call 39;refine D7.out.mono ?_;rintro e w9⟨rfl,E9,FD,G4,ez⟩;have vV:∀k,E9 k→D k∨w.heap.size≤k:=fun k hk=>by
  rcases ez k hk with h1|h1
  ·exact fC.out k h1
  ·exact .inr (Nat.le_trans oL.out.size (Nat.le_trans cI.out.size h1))
 have ts:=qH ((oL.out.trans (Fr.of_below (D:=fun _=>False) cI.out) (fun _ h=>h.elim)).trans G4 fC.out);have lh:=qH vV;have IJ:=qH FD;clear FD G4 ez vV;go_wp2_with fail
 go_at_call 40;refine(flush_any IJ.out).mono ?_;rintro e EW⟨rfl,yr,vG⟩;have DG:=qH (ts.out.trans yr lh.out);have EF:=qH vG;clear yr vG;go_wp2;refine bodyPost_end (results_none rfl _ _ _) rfl ?_;refine⟨rfl,E9,?_,DG.out,lh.out⟩;have he:layS s ep ar ps=(writeL s5.flush (ep%2) [hd] [hd].length).flush:=by
  unfold layS;rw[←fy.out,←iF.out,←ta.out];rfl
 rw[he];exact EF.out
def formatS(s:Sim):Sim:=layS (writeL s 0 (List.replicate (2+jN s.firm.length) []) (2+jN s.firm.length)).flush 1 0 ((buildL []).getD [])
theorem pn_nils{w:World}{base g n:Nat}(h:w.ownsRow base 46 1 (.slice (some ⟨g,0,none⟩) n n) n (List.replicate n (.slice none 0 0)))(b:Nat)(hb:b≤g):PN w b (.slice (some ⟨g,0,none⟩) n n) (List.replicate n []):=by
 rcases h.2 with ⟨h0,_⟩|⟨g',cap,cur,he,hbg,hg,hnc,hcm,hcs,ht⟩
 ·cases h0
 ·injection he with he _ hcap
  injection he with he;injection he with he _;subst he;refine⟨some ⟨g,0,none⟩,n,by rw[List.length_replicate],by rw[List.length_replicate];exact Nat.le_refl _,by omega,.inr ⟨g,0,rfl,hb,(Array.getElem?_eq_some_iff.1 hg).1,fun j hj=>?_⟩⟩;rw[List.length_replicate] at hj;have hc:=h.cells (g:=g) rfl j (.slice none 0 0) (by simp[hj]);rw[Addr.add_lit] at hc;exact⟨_,hc,by rw[List.getElem_replicate];exact RB.nil_ w,fun hne=>absurd (List.getElem_replicate ..) hne⟩
theorem format_st{D:Nat→Prop}{w:World}{v:Value}{s:Sim}(h:Dev D w v s)(hn:64≤s.firm.length)(hl:s.loose.length≤40000):
  Calls Tryz.prog 12 #[v] w fun e w'=>e= .returned (.int .u16 0)∧Did D w v (formatS s) w':=by
 obtain⟨iU,hi,hz0,hz1,hz2⟩:=info_parts info46;have HI:=qH hi;have sS:=qH hz0;have lF:=qH hz1;have jz:=qH hz2;clear hi hz0 hz1 hz2;have HN:=h.ok.n;have H:=qH h;have jO:=qH h.lt;obtain⟨g,rfl⟩:=dev_ptr h;obtain⟨n,hne⟩:∃n,n=s.firm.length:=⟨_,rfl⟩
 have hlen:=fun X (hX:Dev D X (.pointer (some ⟨g,0,none⟩)) s)=>len_any hX
 rw[←hne] at hlen hn HN;have HL:=qH hlen;have al:=fun X=>layout_any (n:Int) (by omega) (by omega) X
 rw[layJ_nat,layA_nat] at al;have HY:=qH al;have Hq:=jN_le n;have uN:=aN_pos hn;obtain⟨J,hJ⟩:∃J,J=jN n:=⟨_,rfl⟩
 rw[←hJ] at HY Hq uN;have HJ:=qH hJ;have fZ:=qH hne;have Jb:J≤1024:=by omega
 have hnn:¬(n:Int)<64:=by omega
 clear h hlen al hJ hne;go_enter Tryz.func12,Tryz.ntmps12;go_wp2_with (first|(go_at_call 38;refine(HL.out _ H.out).mono ?_;rintro e w1 ⟨rfl,rfl⟩)|(go_at_call 29;refine(HY.out _).mono ?_;rintro e w1 ⟨rfl,rfl⟩)|(refine wpList_make_full _ rfl (.tmp 17) (.tmp 17) 26 rfl 0 46 iU (.slice none 0 0) 1 Tryz.underlying26 HI.out sS.out lF.out .i64 .i64 (2+(J:Int)) (2+(J:Int)) (2+J) rfl rfl (by omega) (by omega) (by rw[jz.out];omega) (by unfold maxLen;omega) (Nat.zero_le _) ?_))
 intro w2 hown2 hgrow2;have hmk:(madeCells #[Value.slice none 0 0] (2+J)).toList=List.replicate (2+J) (.slice none 0 0):=toList_madeCells_one _ _;rw[hmk] at hown2;have hb2:Below w.heap.size w w2:=(Below.refl _ _).grown hgrow2 (Nat.le_refl _) (fun z hz=>by cases hz);have iV:=pn_nils hown2 w.heap.size (Nat.le_refl _);have hsl:s.loose.length+(List.replicate (2+J) ([]:List UInt8)).length<100000:=by rw[List.length_replicate];omega
 have hwr:=wr_any 0 _ _ w.heap.size (H.out.below hb2) jO.out hb2.size iV hsl (by omega);rw[List.length_replicate] at hwr;have iK:=qH hwr;have ae:=qH hb2;clear hwr iV hown2 hgrow2 hmk hb2 hsl;go_wp2_with fail
 go_at_call 39;refine iK.out.mono ?_;rintro e w5⟨rfl,E5,sb,pB,bD⟩;obtain⟨s5,hs5⟩:∃s5,s5=writeL s 0 (List.replicate (2+J) []) (2+J):=⟨_,rfl⟩
 rw[←hs5] at sb;have kr:s5.firm.length=n:=by rw[hs5,writeL_firm];exact fZ.out.symm
 have iY:s5.loose.length≤50000:=by rw[hs5];have:=writeL_loose s 0 (List.replicate (2+J) []) (2+J);omega
 have iF:=qH hs5;have eH:=qH (Fr.trans (Fr.of_below (D:=D) ae.out) pB (fun k hk=> .inl hk));have fC:=qH (fun k hk=>by
  rcases bD k hk with h1|h1
  ·exact(.inl h1:D k∨w.heap.size≤k)
  ·exact .inr (Nat.le_trans ae.out.size h1))
 have EQ:=qH sb;have BD:=qH kr;clear hs5 sb pB bD kr;go_wp2_with fail
 go_at_call 40;refine(flush_any EQ.out).mono ?_;rintro e w6⟨rfl,qZ,vQ⟩;have oL:=qH (eH.out.trans qZ fC.out);have k7:s5.flush.loose.length≤50000:=Nat.le_trans (flush_loose s5) iY;obtain⟨pg,gB⟩:=build_nil;have mm:s5.flush.firm.length=n:=by rw[flush_firm];exact BD.out
 have al:=lay_st 1 0 (.slice none 0 0) [] [pg] vQ (by omega) (by omega) (rr_nil _) gB (by simp) (built_256 gB) (by rw[mm];exact hn) (by rw[mm];simp;omega) k7;have bh:=qH al;have vc:=qH gB;clear qZ vQ al gB mm;go_wp2_with fail
 go_at_call 41;refine bh.out.mono ?_;rintro e w7⟨rfl,nE⟩;have hd2:=Did.trans_ oL.out fC.out nE;have he:formatS s=layS s5.flush 1 0 [pg]:=by
  unfold formatS;rw[←fZ.out,←HJ.out,←iF.out,vc.out];rfl
 rw[←he] at hd2;have AS:=qH hd2;clear nE hd2 he;go_wp2;go_ret;exact⟨rfl,AS.out⟩
structure Ss where
 d:Sim
 rows:List Rw
 ep:Nat
 ar:Nat
 us:Nat
 fr:Nat
abbrev Ss.n(x:Ss):Nat:=x.d.firm.length
def sc(dg:Nat)(rv:Value)(x:Ss):Array Value:=#[dv (.pointer (some ⟨dg,0,none⟩)),rv,.int .i64 (x.ep:Int),.int .i64 (x.ar:Int),.int .i64 (x.us:Int),.int .i64 (x.fr:Int)]
structure GoodX (x:Ss):Prop where
 n:64≤x.n
 ok:OK x.d
 fit:∃ps,buildL x.rows=some ps∧ps.length≤aN x.n
 ep:x.ep≤1073741824
 ar:x.ar≤1
 us:x.us≤jN x.n
 fr:x.fr≤x.us
 lo:x.d.loose.length≤8000
 calm:x.d.goes=true→x.d.loose= []
def RO(R:Nat→Prop)(w:World)(rv:Value)(rs:List Rw):Prop:=∀w':World,w.heap.size≤w'.heap.size→(∀k,R k→w'.heap[k]? =w.heap[k]?)→RR w' rv rs
structure StoA (D R M:Nat→Prop) (g dg:Nat) (rv:Value) (w:World) (x:Ss):Prop where
 dev:Dev D w (.pointer (some ⟨dg,0,none⟩)) x.d
 hg:¬D g
 hR:∀k,R k→¬D k∧k≠g∧k<w.heap.size
 hM:∀k,M k↔(D k∨k=g∨R k)
 blk:Dv.Blk w g 107 (sc dg rv x)
 rows:RO R w rv x.rows
def Sto(dg:Nat)(M:Nat→Prop)(w:World)(sv:Value)(x:Ss):Prop:=
 ∃(D R:Nat→Prop) (g:Nat) (rv:Value),sv= .pointer (some ⟨g,0,none⟩)∧StoA D R M g dg rv w x
theorem RO.keep{R:Nat→Prop}{w w':World}{rv:Value}{rs:List Rw}(h:RO R w rv rs)(hs:w.heap.size≤w'.heap.size)(hk:∀k,R k→w'.heap[k]? =w.heap[k]?):RO R w' rv rs:=
 fun w2 h2 hk2=>h w2 (Nat.le_trans hs h2) (fun k hr=>(hk2 k hr).trans (hk k hr))
theorem RO.rr{R:Nat→Prop}{w:World}{rv:Value}{rs:List Rw}(h:RO R w rv rs):RR w rv rs:=h w (Nat.le_refl _) (fun _ _=>rfl)
def SDid(dg:Nat)(M:Nat→Prop)(w:World)(sv:Value)(x:Ss)(w':World):Prop:=∃M':Nat→Prop,Sto dg M' w' sv x∧Fr M w w'∧∀k,M' k→M k∨w.heap.size≤k
section
variable {dg:Nat} {M:Nat→Prop} {w w':World} {sv:Value} {x:Ss}
theorem StoA.lt{D R:Nat→Prop}{g:Nat}{rv:Value}(h:StoA D R M g dg rv w x):∀k,M k→k<w.heap.size:=by
 intro k hk;rcases(h.hM k).1 hk with h1|rfl|h1
 ·exact h.dev.lt k h1
 ·exact h.blk.lt
 ·exact(h.hR k h1).2.2
theorem Sto.lt(h:Sto dg M w sv x):∀k,M k→k<w.heap.size:=by
 obtain⟨D,R,g,rv,_,h⟩:=h;exact h.lt
theorem StoA.fr{D R:Nat→Prop}{g:Nat}{rv:Value}{E:Nat→Prop}(h:StoA D R M g dg rv w x)(hf:Fr E w w')(hE:∀k,E k→¬M k):StoA D R M g dg rv w' x:=by
 have hk:∀k,k<w.heap.size→M k→w'.heap[k]? =w.heap[k]? :=fun k hk hm=>hf.block k hk (fun he=>hE k he hm)
 exact⟨h.dev.fr (E:=E) hf (fun k hk hD=>hE k hk ((h.hM k).2 (.inl hD))),h.hg,fun k hr=>⟨(h.hR k hr).1,(h.hR k hr).2.1,Nat.lt_of_lt_of_le (h.hR k hr).2.2 hf.size⟩,h.hM,h.blk.same (hk g h.blk.lt ((h.hM g).2 (.inr (.inl rfl)))),h.rows.keep hf.size (fun k hr=>hk k (h.hR k hr).2.2 ((h.hM k).2 (.inr (.inr hr))))⟩
theorem Sto.fr{E:Nat→Prop}(h:Sto dg M w sv x)(hf:Fr E w w')(hE:∀k,E k→¬M k):Sto dg M w' sv x:=by
 obtain⟨D,R,g,rv,h0,h⟩:=h;exact⟨D,R,g,rv,h0,h.fr hf hE⟩
theorem StoA.below{D R:Nat→Prop}{g:Nat}{rv:Value}(h:StoA D R M g dg rv w x)(hb:Below w.heap.size w w'):StoA D R M g dg rv w' x:=h.fr (E:=fun _=>False) (Fr.of_below hb) (fun _ h=>h.elim)
theorem Sto.below(h:Sto dg M w sv x)(hb:Below w.heap.size w w'):Sto dg M w' sv x:=h.fr (E:=fun _=>False) (Fr.of_below hb) (fun _ h=>h.elim)
theorem SDid.same(h:Sto dg M w' sv x)(hf:Fr M w w'):SDid dg M w sv x w':=⟨M,h,hf,fun _ h=> .inl h⟩
end
def ckS(x:Ss):Ss:={d:=layS x.d (x.ep+1) (1-x.ar) ((buildL x.rows).getD []),rows:=x.rows,ep:=x.ep+1,ar:=1-x.ar,us:=0,fr:=0}
theorem or_ro{w:World}{base top:Nat}{rv:Value}{rs:List Rw}(h:OR 5 78 w base rv rs)(ht:w.heap.size≤top):RO (fun k=>base≤k∧k<top) w rv rs:=fun w' hs hk=>by
 obtain⟨us,hu,ho,hf⟩:=h;have hb:∀k,base≤k→k<w.heap.size→w'.heap[k]? =w.heap[k]? :=fun k h1 h2=>hk k ⟨h1,by omega⟩
 have ho':w'.ownsRow base 78 2 rv us.length (rowCells us):=own_same ho (fun k hk=>by
  rcases ho.2 with ⟨rfl,_⟩|⟨g,cap,cur,rfl,hbg,hg,_⟩
  ·simp[Value.ownBlock] at hk
  ·obtain rfl:g=k:=by simpa [Value.ownBlock] using hk
   exact hb g hbg (Array.getElem?_eq_some_iff.1 hg).1)
 exact(show OR 5 78 w' base rv rs from⟨us,hu,ho',fun x hx=>by
  rcases hf x hx with h1|⟨g,c,cur,fr,h1,h2,h3,h4⟩
  ·exact .inl h1
  ·exact .inr ⟨g,c,cur,fr,h1,h2,(hb g h2 (Array.getElem?_eq_some_iff.1 h3).1).trans h3,h4⟩⟩).rr
theorem rr_of{D R M:Nat→Prop}{g dg:Nat}{rv:Value}{w w':World}{x:Ss}(h:StoA D R M g dg rv w x){E:Nat→Prop}(hf:Fr E w w')(hE:∀k,E k→¬R k):RR w' rv x.rows:=
 h.rows w' hf.size (fun k hr=>hf.block k (h.hR k hr).2.2 (fun he=>hE k he hr))
theorem used_any{dg:Nat}{M:Nat→Prop}{w:World}{sv:Value}{x:Ss}(h:Sto dg M w sv x):
  Calls Tryz.prog 59 #[sv] w fun e w'=>e= .returned (.int .i64 (x.us:Int))∧w=w':=by
 obtain⟨D,R,g,rv,rfl,h⟩:=h;have c4:=h.blk.cell 4;unfold sc at c4;simp at c4;clear h;go_enter Tryz.func59,Tryz.ntmps59;go_wp2;go_ret;exact⟨rfl,rfl⟩
theorem epoch_any{dg:Nat}{M:Nat→Prop}{w:World}{sv:Value}{x:Ss}(h:Sto dg M w sv x):
  Calls Tryz.prog 36 #[sv] w fun e w'=>e= .returned (.int .i64 (x.ep:Int))∧w=w':=by
 obtain⟨D,R,g,rv,rfl,h⟩:=h;have c2:=h.blk.cell 2;unfold sc at c2;simp at c2;clear h;go_enter Tryz.func36,Tryz.ntmps36;go_wp2;go_ret;exact⟨rfl,rfl⟩
theorem ck_over{dg:Nat}{M:Nat→Prop}{w:World}{sv:Value}{x:Ss}(h:Sto dg M w sv x)(he:x.ep=1073741824):
  Calls Tryz.prog 20 #[sv] w fun e w'=>e= .returned (.int .u16 32)∧w=w':=by
 obtain⟨D,R,g,rv,rfl,h⟩:=h;have c2:=h.blk.cell 2;unfold sc at c2;rw[he] at c2;simp at c2;clear h;go_enter Tryz.func20,Tryz.ntmps20;go_wp2;go_ret;exact⟨rfl,rfl⟩
theorem ck_any{dg:Nat}{M:Nat→Prop}{w:World}{sv:Value}{x:Ss}(h:Sto dg M w sv x)(hG:GoodX x)(he:x.ep<1073741824):
  Calls Tryz.prog 20 #[sv] w fun e w'=>e= .returned (.int .u16 0)∧SDid dg M w sv (ckS x) w':=by
 obtain⟨D,R,g,rv,rfl,h⟩:=h;obtain⟨ps,hps,hpl⟩:=hG.fit;have H:=qH h;have c0:=h.blk.cell 0;have c1:=h.blk.cell 1;have c2:=h.blk.cell 2;have c3:=h.blk.cell 3;have c4:=h.blk.cell 4;have c5:=h.blk.cell 5;have f2:=h.blk.frozen 2;have f3:=h.blk.frozen 3;unfold sc at c0 c1 c2 c3 c4 c5;simp at c0 c1 c2 c3 c4 c5;obtain⟨Ar,cr,ib,pO,pt⟩:=rr_shape h.rows.rr;have fe:x.ep≤1073741823:=by omega
 have KL:=hG.ar;obtain⟨E1,oJ⟩:∃E1,E1=x.ep+1:=⟨_,rfl⟩
 obtain⟨A1,cE⟩:∃A1,A1=1-x.ar:=⟨_,rfl⟩
 have KU:IntKind.i64.wrap ((x.ep:Int)+1)=(E1:Int):=by rw[IntKind.wrap_i64];omega
 have KA:IntKind.i64.wrap (1-(x.ar:Int))=(A1:Int):=by rw[IntKind.wrap_i64];omega
 have EU:¬(x.ep:Int)=1073741824:=by omega
 have GN:((x.ep:Int)==1073741824)=false:=by rw[beq_eq_false_iff_ne];omega
 let W2:=(w.setCell ⟨g,2,none⟩ (.int .i64 (E1:Int))).setCell ⟨g,3,none⟩ (.int .i64 (A1:Int))
 have ay:Fr (fun j=>j=g) w W2:=Fr.setCell (p:=⟨g,3,none⟩) (Fr.setCell (p:=⟨g,2,none⟩) (Fr.refl (fun j=>j=g) w) (.inl rfl) _) (.inl rfl) _;have nH:Dev D W2 (.pointer (some ⟨dg,0,none⟩)) x.d:=h.dev.fr ay (by rintro k rfl;exact h.hg);have qL:Dv.Blk W2 g 107 #[dv (.pointer (some ⟨dg,0,none⟩)),rv,.int .i64 (E1:Int),.int .i64 (A1:Int),.int .i64 (x.us:Int),.int .i64 (x.fr:Int)]:=(h.blk.set_ 2 _).set_ 3 _;have ye:RR W2.drew rv x.rows:=rr_of h ay.drew (by rintro k rfl hr;exact(h.hR k hr).2.1 rfl);have al:=lay_st (w:=W2.drew) E1 A1 rv x.rows ps (nH.below (Below.refl _ _).drew) (by omega) (by omega) ye hps (built_ne hps) (built_256 hps) hG.n hpl (by have:=hG.lo;omega);have bh:=qH al;have ae:=qH qL;have cJ:=qH ay;have AS:=qH nH;have G7:=qH oJ;have fN:=qH cE;have pQ:=qH hps;have AU:=qH (show W2=(w.setCell ⟨g,2,none⟩ (.int .i64 (E1:Int))).setCell ⟨g,3,none⟩ (.int .i64 (A1:Int)) from rfl)
 clear_value W2
 subst ib;clear h hps hpl ay nH qL ye al oJ cE hG;go_enter Tryz.func20,Tryz.ntmps20;go_wp2;rw[←AU.out];refine wp_region_held_drew (S:=fun X=>Dv.Blk X g 107 #[dv (.pointer (some ⟨dg,0,none⟩)),.slice Ar x.rows.length cr,.int .i64 (E1:Int),.int .i64 (A1:Int),.int .i64 (x.us:Int),.int .i64 (x.fr:Int)]) (by kernel_rfl) ae.out (fun hHeld=>?_);refine tkC 0 ?_;refine tkC 1 ?_;refine tkC 2 ?_;refine tkA 3 (v:=?_) ?_ ?_;rotate_left
 ·intro X hSw;have z0:=hSw.cell 0;have z1:=hSw.cell 1;have z2:=hSw.cell 2;have z3:=hSw.cell 3;simp at z0 z1 z2 z3;go_simp;try (with_reducible rfl)
 try simp only[Act.put,zA,zB,zC]
 refine tkC 4 ?_;refine tkC 5 ?_;refine tkC 6 ?_;refine tkA 7 (v:=?_) ?_ ?_;rotate_left
 ·intro X hSw;have z0:=hSw.cell 0;have z1:=hSw.cell 1;have z2:=hSw.cell 2;have z3:=hSw.cell 3;simp at z0 z1 z2 z3;go_simp;try (with_reducible rfl)
 try simp only[Act.put,zA,zB,zC]
 refine tkC 8 ?_;refine tkC 9 ?_;refine tkC 10 ?_;refine tkA 11 (v:=?_) ?_ ?_;rotate_left
 ·intro X hSw;have z0:=hSw.cell 0;have z1:=hSw.cell 1;have z2:=hSw.cell 2;have z3:=hSw.cell 3;simp at z0 z1 z2 z3;go_simp;try (with_reducible rfl)
 try simp only[Act.put,zA,zB,zC]
 refine tkC 12 ?_;refine tkC 13 ?_;refine tkC 14 ?_;refine tkA 15 (v:=?_) ?_ ?_;rotate_left
 ·intro X hSw;have z0:=hSw.cell 0;have z1:=hSw.cell 1;have z2:=hSw.cell 2;have z3:=hSw.cell 3;simp at z0 z1 z2 z3;go_simp;try (with_reducible rfl)
 try simp only[Act.put,zA,zB,zC]
 refine rdA (rs:= [16]) ?_;refine arC (fun K hK=>?_);go_simp;refine bh.out.mono ?_;rintro e w3⟨rfl,E3,Gi,mJ,hk3⟩;have ak:=qH (show Dv.Blk w3 g 107 #[dv (.pointer (some ⟨dg,0,none⟩)),.slice Ar x.rows.length cr,.int .i64 (E1:Int),.int .i64 (A1:Int),.int .i64 (x.us:Int),.int .i64 (x.fr:Int)] from ae.out.same (mJ.block g ae.out.lt H.out.hg));have I5:=qH Gi;have ip:=qH (show Fr D W2 w3 from(Fr.refl D W2).drew.trans mJ (fun _ h=> .inl h));have EV:=qH (show ∀k,E3 k→D k∨W2.heap.size≤k from hk3);clear Gi mJ hk3;try (go_wp2_with fail)
 have ac:=ak.out;refine hK.out _ _ ?_ (fun _=>?_)
 ·exact ac
 clear hK K hHeld;have hHeld:=ac;clear ac;try simp only[Act.put,zA,zB,zC]
 refine wpAnyH_done (by kernel_rfl) ?_ _;clear hHeld c0 c1 c2 c3 c4 c5 f2 f3;have p4:=ak.out.cell 4;have p5:=ak.out.cell 5;have f4:=ak.out.frozen 4;have f5:=ak.out.frozen 5;simp at p4 p5;go_wp2;go_ret;refine⟨rfl,fun k=>E3 k∨k=g∨R k,⟨E3,R,g,.slice Ar x.rows.length cr,rfl,?_⟩,?_,?_⟩
 ·have Gu:g<W2.heap.size:=ae.out.lt
  have hsz:W2.heap.size=w.heap.size:=by rw[AU.out];simp[World.setCell]
  have l5:¬E3 g:=fun hh=>by rcases EV.out g hh with h1|h1;exact H.out.hg h1;omega
  have um:Fr (fun j=>j=g) w3 ((w3.setCell ⟨g,4,none⟩ (.int .i64 0)).setCell ⟨g,5,none⟩ (.int .i64 0)):=Fr.setCell (p:=⟨g,5,none⟩) (Fr.setCell (p:=⟨g,4,none⟩) (Fr.refl (fun j=>j=g) w3) (.inl rfl) _) (.inl rfl) _;have cj:ckS x=⟨layS x.d E1 A1 ps,x.rows,E1,A1,0,0⟩:=by unfold ckS;rw[pQ.out,G7.out,fN.out];rfl
  rw[cj];refine⟨I5.out.fr um (by rintro k rfl;exact l5),l5,fun k hr=>⟨fun hh=>?_,(H.out.hR k hr).2.1,?_⟩,fun k=>Iff.rfl,(ak.out.set_ 4 _).set_ 5 _,H.out.rows.keep ?_ (fun k hr=>?_)⟩
  ·rcases EV.out k hh with h1|h1
   ·exact(H.out.hR k hr).1 h1
   ·have:=(H.out.hR k hr).2.2;omega
  ·have h1:=(H.out.hR k hr).2.2
   have h2:=ip.out.size;have h3:=um.size;omega
  ·have h2:=ip.out.size
   have h3:=um.size;omega
  ·have h1:=(H.out.hR k hr).2.2
   have e1:=cJ.out.block k h1 (by intro hkg;exact(H.out.hR _ hr).2.1 hkg);have e2:=ip.out.block k (by omega) (H.out.hR k hr).1;have e3:=um.block k (by have:=ip.out.size;omega) (by intro hkg;exact(H.out.hR _ hr).2.1 hkg);exact e3.trans (e2.trans e1)
 ·have oD:∀k,k=g→M k:=fun k hk=>(H.out.hM k).2 (.inr (.inl hk))
  have hm2:∀k,D k→M k:=fun k hk=>(H.out.hM k).2 (.inl hk)
  exact Fr.setCell (p:=⟨g,5,none⟩) (Fr.setCell (p:=⟨g,4,none⟩) ((cJ.out.mono oD).trans ip.out (fun k hk=> .inl (hm2 k hk))) (.inl (oD g rfl)) _) (.inl (oD g rfl)) _
 ·have hsz:W2.heap.size=w.heap.size:=by rw[AU.out];simp[World.setCell]
  rintro k (h1|h1|h1)
  ·rcases EV.out k h1 with h2|h2
   ·exact .inl ((H.out.hM k).2 (.inl h2))
   ·exact .inr (by omega)
  ·exact .inl ((H.out.hM k).2 (.inr (.inl h1)))
  ·exact .inl ((H.out.hM k).2 (.inr (.inr h1)))
def runL(a:Nat)(b:Nat→List UInt8)(m:Nat):List Wr:=(List.range m).map fun i=>(a+i,b i)
theorem runL_len(a:Nat)(b:Nat→List UInt8)(m:Nat):(runL a b m).length=m:=by simp[runL]
theorem runL_succ(a:Nat)(b:Nat→List UInt8)(m:Nat):runL a b (m+1)=runL a b m++ [(a+m,b m)]:=by simp[runL,List.range_succ]
theorem runL_wat{a:Nat}{b:Nat→List UInt8}{m j:Nat}(h:j<m):wat (runL a b m) j=(a+j,b j):=by
 rw[wat_in (by rw[runL_len];exact h)];simp[runL]
def sec(F:List (List UInt8))(i:Nat):List UInt8:=F.getD i []
theorem sec_of{F:List (List UInt8)}{i:Nat}(h:i<F.length):F[i]? =some (sec F i):=by
 unfold sec;rw[List.getD_eq_getElem?_getD,List.getElem?_eq_getElem h];rfl
theorem sec_get{F F':List (List UInt8)}{i:Nat}(h:F[i]? =F'[i]?):sec F i=sec F' i:=by
 unfold sec;rw[List.getD_eq_getElem?_getD,List.getD_eq_getElem?_getD,h]
theorem sec_some{F:List (List UInt8)}{i:Nat}{b:List UInt8}(h:F[i]? =some b):sec F i=b:=by
 unfold sec;rw[List.getD_eq_getElem?_getD,h];rfl
theorem sec_len{F:List (List UInt8)}(h:∀x∈F,x.length=64){i:Nat}(hi:i<F.length):(sec F i).length=64:=by
 have:=sec_of hi;exact h _ (List.mem_of_getElem? this)
theorem kept_run{F:List (List UInt8)}{a m:Nat}{b:Nat→List UInt8}{K:List Bool}:∀k,k≤m→∀i,(kept F (runL a b m) K k)[i]? =if a≤i∧i<a+k∧K.getD (i-a) false=true∧i<F.length then some (b (i-a)) else F[i]?
 |0,_,i=>by
  rw[kept,if_neg (by omega)]
 |k+1,h,i=>by
  have ih:=kept_run (F:=F) (a:=a) (m:=m) (b:=b) (K:=K) k (by omega) i;rw[kept];by_cases hK:K.getD k false=true
  ·rw[if_pos hK,runL_wat (by omega),List.getElem?_set,kept_length]
   by_cases hi:a+k=i
   ·subst hi
    have e:a+k-a=k:=by omega
    simp only[if_true,e];by_cases hF:a+k<F.length
    ·rw[if_pos hF,if_pos ⟨by omega,by omega,hK,hF⟩]
    ·rw[if_neg hF,if_neg (fun h=>hF h.2.2.2),List.getElem?_eq_none (by omega)]
   ·rw[if_neg hi,ih]
    by_cases hc:a≤i∧i<a+k∧K.getD (i-a) false=true∧i<F.length
    ·rw[if_pos hc,if_pos ⟨hc.1,by omega,hc.2.2⟩]
    ·rw[if_neg hc,if_neg (fun h=>hc ⟨h.1,by omega,h.2.2⟩)]
  ·rw[if_neg hK,ih]
   by_cases hc:a≤i∧i<a+k∧K.getD (i-a) false=true∧i<F.length
   ·rw[if_pos hc,if_pos ⟨hc.1,by omega,hc.2.2⟩]
   ·rw[if_neg hc,if_neg (fun h=>hc ⟨h.1,by
     have h1:=h.2.1;by_cases hi:i=a+k
     ·subst hi
      rw[show a+k-a=k by omega] at h;exact(hK h.2.2.1).elim
     ·omega,h.2.2⟩)]
theorem write_dead{s:Sim}(h:s.goes=false)(i:Int)(b:List UInt8):s.write i b=s:=by
 unfold Sim.write;rw[h,Bool.and_false,if_neg (by decide)]
theorem flush_dead{s:Sim}(h:s.goes=false):s.flush=s:=by
 unfold Sim.flush;rw[h,if_neg (by decide)]
theorem writeL_dead{s:Sim}(h:s.goes=false)(a:Nat)(ps:List (List UInt8)):∀k,writeL s a ps k=s
 |0=>rfl
 |k+1=>by rw[writeL,writeL_dead h a ps k,write_dead h]
theorem layS_dead{s:Sim}(h:s.goes=false)(ep ar:Nat)(ps:List (List UInt8)):layS s ep ar ps=s:=by
 unfold layS;rw[writeL_dead h,flush_dead h,write_dead h,flush_dead h]
theorem write_live{s:Sim}{i:Nat}{b:List UInt8}(hi:i<s.firm.length)(hb:b.length≤64)(h:s.goes=true):s.write (i:Int) b=s.put i b:=by
 unfold Sim.write;have e:s.has (i:Int)=true:=by rw[Sim.has_iff];omega
 rw[e,h,decide_eq_true hb,if_pos (by decide)];rfl
theorem flush_live{s:Sim}(h:s.goes=true):s.flush.firm=kept s.firm s.loose (List.replicate s.loose.length true) s.loose.length∧s.flush.loose= []:=by
 unfold Sim.flush;rw[h,if_pos (by rfl)];exact⟨rfl,rfl⟩
theorem writeL_run{s:Sim}{a:Nat}{ps:List (List UInt8)}(h64:∀p∈ps,p.length≤64):∀k,k≤ps.length→a+k≤s.firm.length→
  ∃j,j≤k∧(writeL s a ps k).loose=s.loose++runL a (fun i=>pad (ps.getD i [])) j∧(j<k→(writeL s a ps k).goes=false)
 |0,_,_=>⟨0,Nat.le_refl _,by simp[writeL,runL],fun h=>absurd h (by omega)⟩
 |k+1,hk,ha=>by
  obtain⟨j,hj,hl,hg⟩:=writeL_run (s:=s) (a:=a) h64 k (by omega) (by omega);rw[writeL];by_cases hgo:(writeL s a ps k).goes=true
  ·have hjk:j=k:=by
    rcases Nat.lt_or_ge j k with h|h
    ·rw[hg h] at hgo;cases hgo
    ·omega
   subst hjk;have hb:(ps.getD j []).length≤64:=by
    rw[List.getD_eq_getElem?_getD,List.getElem?_eq_getElem (by omega)];exact h64 _ (List.getElem_mem _)
   have e:((a+j:Nat):Int)=((a+j:Nat):Int):=rfl;rw[write_live (i:=a+j) (by rw[writeL_firm];omega) hb hgo];refine⟨j+1,Nat.le_refl _,?_,fun h=>absurd h (by omega)⟩;show(writeL s a ps j).loose++ [(a+j,pad (ps.getD j []))]=_;rw[hl,runL_succ,List.append_assoc]
  ·have yG:(writeL s a ps k).goes=false:=by simpa using hgo
   rw[write_dead yG];exact⟨j,by omega,hl,fun _=>yG⟩
theorem pad_same{b:List UInt8}(h:b.length=64):pad b=b:=by unfold pad;rw[h];simp
theorem writeL_kept{s:Sim}{a:Nat}{ps:List (List UInt8)}(hl:s.loose= [])(h64:∀p∈ps,p.length=64)(ha:a+ps.length≤s.firm.length):
  ∃j,j≤ps.length∧(j<ps.length→(writeL s a ps ps.length).goes=false)∧(writeL s a ps ps.length).loose.length=j∧
   ∀K i,(kept s.firm (writeL s a ps ps.length).loose K j)[i]? =if a≤i∧i<a+j∧K.getD (i-a) false=true∧i<s.firm.length then some (sec ps (i-a)) else s.firm[i]? :=by
 obtain⟨j,hj,h1,h2⟩:=writeL_run (s:=s) (a:=a) (fun p hp=>Nat.le_of_eq (h64 p hp)) ps.length (Nat.le_refl _) ha;rw[hl,List.nil_append] at h1;refine⟨j,hj,h2,by rw[h1,runL_len],fun K i=>?_⟩;rw[h1,kept_run j (Nat.le_refl _) i];by_cases hc:a≤i∧i<a+j∧K.getD (i-a) false=true∧i<s.firm.length
 ·rw[if_pos hc,if_pos hc]
  show some (pad (sec ps (i-a)))=_;rw[pad_same (sec_len h64 (by omega))]
 ·rw[if_neg hc,if_neg hc]
theorem trues_get{n i:Nat}(h:i<n):(List.replicate n true).getD i false=true:=by
 rw[List.getD_eq_getElem?_getD,List.getElem?_replicate,if_pos h];rfl
theorem writeL_flush{s:Sim}{a:Nat}{ps:List (List UInt8)}(hl:s.loose= [])(h64:∀p∈ps,p.length=64)(ha:a+ps.length≤s.firm.length)(hg:(writeL s a ps ps.length).goes=true):
  (writeL s a ps ps.length).flush.loose= []∧∀i,(writeL s a ps ps.length).flush.firm[i]? =if a≤i∧i<a+ps.length then some (sec ps (i-a)) else s.firm[i]? :=by
 obtain⟨j,hj,h1,h2,h3⟩:=writeL_kept hl h64 ha;have Il:j=ps.length:=by
  rcases Nat.lt_or_ge j ps.length with h|h
  ·rw[h1 h] at hg;cases hg
  ·omega
 obtain⟨f1,f2⟩:=flush_live hg;refine⟨f2,fun i=>?_⟩;rw[f1,h2,writeL_firm,h3,Il];by_cases hc:a≤i∧i<a+ps.length
 ·rw[if_pos ⟨hc.1,hc.2,trues_get (by omega),by omega⟩,if_pos hc]
 ·rw[if_neg (fun h=>hc ⟨h.1,h.2.1⟩),if_neg hc]
theorem goes_none{s:Sim}(h:s.fuse=none):s.goes=true:=by unfold Sim.goes;rw[h];rfl
theorem write_fuse{s:Sim}(h:s.fuse=none)(i:Int)(b:List UInt8):(s.write i b).fuse=none:=by
 unfold Sim.write;split
 ·show s.fuse.map _=none;rw[h];rfl
 ·exact h
theorem flush_fuse{s:Sim}(h:s.fuse=none):s.flush.fuse=none:=by
 unfold Sim.flush;split
 ·show s.fuse.map _=none;rw[h];rfl
 ·exact h
theorem writeL_fuse{s:Sim}(h:s.fuse=none)(a:Nat)(ps:List (List UInt8)):∀k,(writeL s a ps k).fuse=none
 |0=>h
 |k+1=>write_fuse (writeL_fuse h a ps k) _ _
theorem layS_fuse{s:Sim}(h:s.fuse=none)(ep ar:Nat)(ps:List (List UInt8)):(layS s ep ar ps).fuse=none:=by
 unfold layS;exact flush_fuse (write_fuse (flush_fuse (writeL_fuse h _ _ _)) _ _)
abbrev Rx:Type:=ByteArray×List UInt8×Value
def rx(x:Rx):Rw:=(x.1,x.2.1)
theorem rr_cells{w:World}{v:Value}{rs:List Rw}(h:RR w v rs):∃us:List Rx,us.map rx=rs∧(∀w',Below w.heap.size w w'→Src Tryz.prog 2 40 v us.length (rowCells us) w')∧∀x∈us,RB w x.2.2 x.2.1:=by
 obtain⟨A,c,rfl,h1,h2,h3⟩:=h;rcases h3 with rfl|⟨b,off,rfl,hb,hcell⟩
 ·refine⟨[],rfl,fun w' _=>?_,fun x hx=>(by cases hx)⟩
  cases A with
  |none=>exact Src.ofNil w' Tryz.underlying40 c
  |some a=>exact Src.ofSlice w' Tryz.underlying40 a 0 c [] rfl (fun j u hj=>by simp at hj) (fun u hu=>by cases hu)
 ·obtain⟨us,ah⟩:∃us:List Rx,us=(List.range rs.length).map fun j=>((rs.getD j (⟨#[]⟩,[])).1,(rs.getD j (⟨#[]⟩,[])).2,(w.cell? ⟨b,off+j*2+1,none⟩).getD undef):=⟨_,rfl⟩
  have hlen:us.length=rs.length:=by rw[ah];simp
  have hget:∀j (hj:j<us.length) (uN:j<rs.length),us[j].1=rs[j].1∧us[j].2.1=rs[j].2∧w.cell? ⟨b,off+j*2+1,none⟩=some us[j].2.2∧RB w us[j].2.2 us[j].2.1:=by
   intro j hj uN;obtain⟨_,u,e2,e3⟩:=hcell j uN;have e:us[j]=(rs[j].1,rs[j].2,u):=by
    have:us[j]? =some (rs[j].1,rs[j].2,u):=by
     rw[ah,List.getElem?_map,List.getElem?_range uN];simp only[Option.map_some];rw[List.getD_eq_getElem?_getD,List.getElem?_eq_getElem uN,e2];rfl
    rw[List.getElem?_eq_getElem hj] at this;injection this
   rw[e];exact⟨rfl,rfl,e2,e3⟩
  refine⟨us,?_,?_,fun x hx=>?_⟩
  ·apply List.ext_getElem (by rw[List.length_map,hlen])
   intro j g1 g2;rw[List.getElem_map];obtain⟨a1,a2,_⟩:=hget j (by omega) g2;unfold rx;rw[a1,a2]
  ·intro w' ad
   rw[←hlen];refine Src.ofSlice w' Tryz.underlying40 ⟨b,off,none⟩ us.length c (rowCells us) (rowCells_length us) (fun j u hj=>?_) (fun u hu=>?_)
   ·have hj':j<us.length*2:=by
     have:=(List.getElem?_eq_some_iff.1 hj).1;rw[rowCells_length] at this;exact this
    obtain⟨q1,q2⟩:=rowCells_get us (j/2) (by omega);obtain⟨a1,a2,a3,_⟩:=hget (j/2) (by omega) (by omega);obtain⟨c1,_⟩:=hcell (j/2) (by omega);rcases Nat.mod_two_eq_zero_or_one j with h0|h0
    ·have ej:j/2*2=j:=by omega
     rw[ej] at q1 c1;rw[q1] at hj;injection hj with hj;rw[←hj,a1];have:(Addr.mk b off none).add j=⟨b,off+j,none⟩:=by by_cases h0:j=0 <;>simp[Addr.add,h0]
     rw[this];exact(ad.cell (p:=⟨b,off+j,none⟩) hb).trans c1
    ·have ej:j/2*2+1=j:=by omega
     rw[Nat.add_assoc,ej] at a3;rw[ej] at q2;rw[q2] at hj;injection hj with hj;rw[←hj];have:(Addr.mk b off none).add j=⟨b,off+j,none⟩:=by by_cases h0:j=0 <;>simp[Addr.add,h0]
     rw[this];exact(ad.cell (p:=⟨b,off+j,none⟩) hb).trans a3
   ·unfold rowCells at hu
    obtain⟨x,hx,hu⟩:=List.mem_flatMap.1 hu;obtain⟨j,hj,rfl⟩:=List.getElem_of_mem hx;obtain⟨_,_,_,A4,c4,e4,_⟩:=hget j hj (by omega);simp only[List.mem_cons,List.not_mem_nil,or_false] at hu;rcases hu with rfl|rfl
    ·rfl
    ·rw[e4];rfl
  ·obtain⟨j,hj,rfl⟩:=List.getElem_of_mem hx
   exact(hget j hj (by omega)).2.2.2
theorem cloneR_any(v:Value)(rs:List Rw)(w:World)(h:RR w v rs)(hl:rs.length≤1000000):
  Calls Tryz.prog 68 #[v] w fun e w'=>∃u,e= .returned u∧(∃us:List Rx,us.map rx=rs∧w'.ownsRow w.heap.size 78 2 u us.length (rowCells us)∧∀x∈us,RB w x.2.2 x.2.1)∧Below w.heap.size w w':=by
 obtain⟨us,ah,nh,bZ⟩:=rr_cells h;have hsrc:=nh (w.alloc (Obj.cells #[] 78)) ((Below.refl _ _).alloc (Nat.le_refl _) _);have hlen:us.length=rs.length:=by rw[←ah];simp
 have HS:=qH hsrc;have lR:=qH (show 0+us.length≤maxLen by unfold maxLen;omega);have lU:=qH (show(0+us.length)*40≤140737488355328 by omega);have HO:=qH (own_emptyB w 78 2);have j1:=qH bZ;have HU:=qH ah;have HH:=qH h;obtain⟨A,c,rfl,_,_,h3⟩:=h
 cases A with
 |none=>
  have hl0:rs= []:=by
   rcases h3 with h3|⟨b,off,h4,_⟩
   ·exact h3
   ·cases h4
  have e1:(binOp .eql 40 (.slice none rs.length c) (.slice none 0 0)).run Tryz.prog w= .ok (.bool true) w:=eql_nilB w 40 78 none rs.length c Tryz.underlying40;have JB:=qH hl0;clear h3 hl0 ah hsrc bZ nh hlen;go_enter Tryz.func68,Tryz.ntmps68;go_wp2;go_ret;refine⟨_,rfl,⟨[],JB.out.symm,World.ownsRow_nil _ _ _ _,fun _ h=>by cases h⟩,Below.refl _ _⟩
 |some a=>
  have e1:(binOp .eql 40 (.slice (some a) rs.length c) (.slice none 0 0)).run Tryz.prog w= .ok (.bool false) w:=eql_nilB w 40 78 (some a) rs.length c Tryz.underlying40;have HLEN:=qH hlen;clear h3 ah hsrc bZ nh hlen;go_enter Tryz.func68,Tryz.ntmps68;go_wp2_with (at_builtin;refine wpList_own rfl (.tmp 5) (.tmp 6) 40 40 rfl w.heap.size 78 (.agg #[.string ⟨#[]⟩,.slice none 0 0]) 2 40 Tryz.underlying40 info78 rfl rfl HO.out rfl HS.out ((Below.refl w.heap.size w).alloc (Nat.le_refl _) _) (Nat.le_refl _) lR.out lU.out (by simp) ?_)
  intro v5 w5 ao aH _;have dK:=qH ao;have ax:=qH aH;obtain⟨A5,c5,rfl,_⟩:=own_shape ao;clear ao aH;go_wp2;go_ret;exact⟨_,rfl,⟨us,HU.out,dK.out,j1.out⟩,ax.out⟩
theorem set_mid{α:Type}{ns us:List α}{k:Nat}(h:ns.length=k)(hk:k<us.length)(y:α):(ns++us.drop k).set k y=(ns++ [y])++us.drop (k+1):=by
 subst h;rw[List.set_append_right _ _ (Nat.le_refl _),Nat.sub_self,List.drop_eq_getElem_cons hk,List.set_cons_zero,List.append_assoc];rfl
theorem rows_step{ns us:List Rx}{k:Nat}(h:ns.length=k)(hk:k<us.length)(u:Value):rowCells ((ns++ [(us[k].1,us[k].2.1,u)])++us.drop (k+1))=(rowCells (ns++us.drop k)).set (k*2+1) u:=by
 have hkc:k<(ns++us.drop k).length:=by rw[List.length_append,List.length_drop];omega
 have zZ:(ns++us.drop k)[k]=us[k]:=by
  rw[List.getElem_append_right (by omega),List.getElem_drop]
  congr 1
  omega
 have:=rowCells_setV (ns++us.drop k) k hkc (us[k].2.1,u);rw[zZ,set_mid h hk] at this;exact this
theorem rowsS_any{dg:Nat}{M:Nat→Prop}{w:World}{sv:Value}{x:Ss}(h:Sto dg M w sv x)(hl:x.rows.length≤1000000)(hv:∀r∈x.rows,r.2.length≤1000000):
  Calls Tryz.prog 32 #[sv] w fun e w'=>∃v,e= .returned v∧OR 5 78 w' w.heap.size v x.rows∧Below w.heap.size w w':=by
 obtain⟨D,R,g,rv,rfl,h⟩:=h;have c1:=h.blk.cell 1;unfold sc at c1;simp at c1;obtain⟨Ar,cr,ib,_⟩:=rr_shape h.rows.rr;have hcl:=cloneR_any rv x.rows w h.rows.rr hl;subst ib;have l9:=qH hcl;have HV:=qH hv;have HL:=qH hl;clear h hcl hl hv;go_enter Tryz.func32,Tryz.ntmps32;go_wp2_with fail
 go_at_call 68;refine l9.out.mono ?_;rintro e w1⟨u,rfl,⟨us,ah,ho,bZ⟩,hb1⟩;have hlen:us.length=x.rows.length:=by rw[←ah];simp
 have eY:us.length≤1000000:=by rw[hlen];exact HL.out
 have F7:∀y∈us,y.2.1.length≤1000000:=fun y hy=>HV.out (rx y) (by rw[←ah];exact List.mem_map.2 ⟨y,hy,rfl⟩)
 obtain⟨A,c,rfl,hsh⟩:=own_shape ho;have ce:=qH ah;have HO:=qH ho;have j1:=qH bZ;have an:=qH hb1;have Iw:=qH F7;clear ah ho bZ hb1 hlen F7 c1;obtain⟨n,hn⟩:∃n,n=us.length:=⟨_,rfl⟩
 rw[←hn] at eY⊢;have HN:=qH hn;clear hn;go_wp2_with fail
 go_loopw [14] (fun i wr=>∃k:Nat,k≤n∧i= .int .i64 k∧Below w.heap.size w wr∧∃ns:List Rx,ns.length=k∧ns.map rx=(us.take k).map rx∧wr.ownsRow w.heap.size 78 2 (.slice A n c) n (rowCells (ns++us.drop k))∧∀y∈ns,FB 5 wr w.heap.size y.2.2 y.2.1) (fun i _=>n-(intOf i).toNat)
 case atStart=>exact⟨0,Nat.zero_le _,rfl,an.out,[],rfl,rfl,by have h:=HO.out;rw[←HN.out] at h;exact h,fun _ h=>by cases h⟩
 case round=>
  obtain⟨k,hk,rfl,aj,ns,hnl,uR,how,Ak⟩:=hrel;by_cases hlt:k<n
  ·have hN:=HN.out
   have mC:k<us.length:=by omega
   obtain⟨g2,hA⟩:∃g2,A=some ⟨g2,0,none⟩:=by
    rcases how.2 with ⟨he,h0⟩|⟨g2,cap,cur,he,_⟩
    ·omega
    ·injection he with he _ _
     exact⟨g2,he⟩
   subst hA;have hg2:w.heap.size≤g2∧g2<wr.heap.size:=by
    rcases how.2 with ⟨he,_⟩|⟨g',cap',cur',he',hbb',hg',_⟩
    ·cases he
    ·injection he' with he' _ _;injection he' with he';injection he' with he' _;subst he';exact⟨hbb',(Array.getElem?_eq_some_iff.1 hg').1⟩
   have cG:(ns++us.drop k).length=us.length:=by rw[List.length_append,List.length_drop];omega
   have hkc:k<(ns++us.drop k).length:=by omega
   have zZ:(ns++us.drop k)[k]=us[k]:=by
    rw[List.getElem_append_right (by omega),List.getElem_drop]
    congr 1
    omega
   obtain⟨q1,q2⟩:=rowCells_get (ns++us.drop k) k hkc;rw[zZ] at q1 q2;have hc2:=how.cells (g:=g2) rfl _ _ q2;rw[Addr.add_lit] at hc2;simp only[Nat.zero_add] at hc2;have s0:=(j1.out us[k] (List.getElem_mem mC)).below aj;have hcall:=cloneB_any us[k].2.2 us[k].2.1 wr s0 (by have:=Iw.out us[k] (List.getElem_mem mC);omega);obtain⟨A9,c9,h9⟩:=rb_shape s0;rw[h9] at hc2 hcall;have fm:=qH hcall;have HOW:=qH how;have Ee:=qH Ak;have EL:=qH uR;have oB:=qH hnl;have aw:=qH aj;have HG2:=qH hg2;have HC:=qH cG;have C9:=qH hc2;have KN:=qH mC;clear hcall how Ak uR hnl aj hg2 cG q1 q2 h9 s0 zZ hkc hN;go_wp2_with fail
   go_at_call 69;refine fm.out.mono ?_;rintro e w2⟨u2,rfl,bB,hb2⟩;obtain⟨A8,c8,rfl⟩:=bB.shape;have hc3:w2.cell? ⟨g2,k*2+1,none⟩=_:=(hb2.cell (p:=⟨g2,k*2+1,none⟩) HG2.out.2).trans C9.out;have sw:=own_below HOW.out hb2;have hfz:w2.frozen? ⟨g2,k*2+1,none⟩=false:=by
    rcases sw.2 with ⟨he,_⟩|⟨g',cap',cur',he',hbb',hg',_⟩
    ·cases he
    ·injection he' with he' _ _;injection he' with he';injection he' with he' _;subst he'
     simp[World.frozen?,hg']
   have xW:=qH sw;have fi:=qH bB;have ae:=qH hb2;clear bB hb2 sw hc2;go_wp2_with fail
   have hst:=own_set xW.out (k*2+1) (.slice A8 us[k].2.1.length c8);rw[←rows_step oB.out mC] at hst;have hstep:∃ns':List Rx,ns'.length=k+1∧ns'.map rx=(us.take (k+1)).map rx∧(w2.setCell ⟨g2,k*2+1,none⟩ (.slice A8 us[k].2.1.length c8)).ownsRow w.heap.size 78 2 (.slice (some ⟨g2,0,none⟩) n c) n (rowCells (ns'++us.drop (k+1)))∧∀y∈ns',FB 5 (w2.setCell ⟨g2,k*2+1,none⟩ (.slice A8 us[k].2.1.length c8)) w.heap.size y.2.2 y.2.1:=by
    refine⟨ns++ [(us[k].1,us[k].2.1,.slice A8 us[k].2.1.length c8)],by rw[List.length_append,oB.out];rfl,?_,hst,fun y hy=>?_⟩
    ·rw[List.map_append,EL.out,List.take_succ_eq_append_getElem mC,List.map_append]
     rfl
    ·refine fb_own xW.out (by decide) _ _ ?_
     rcases List.mem_append.1 hy with hy|hy
     ·exact(Ee.out y hy).below ae.out
     ·simp only[List.mem_singleton] at hy
      subst hy;exact fi.out.base_ (Nat.le_of_lt (Nat.lt_of_le_of_lt HG2.out.1 HG2.out.2))
   have yz:=qH hstep;have dd:=qH ((aw.out.trans (ae.out.mono aw.out.size)).setCell (p:=⟨g2,k*2+1,none⟩) HG2.out.1 (.slice A8 us[k].2.1.length c8));clear hst hstep;exact⟨⟨k+1,hlt,rfl,dd.out,yz.out⟩,by simp only[intOf];omega⟩
  ·obtain rfl:k=n:=by omega
   have hd:us.drop k= []:=List.drop_eq_nil_of_le (by have:=HN.out;omega);have ht:us.take k=us:=List.take_of_length_le (by have:=HN.out;omega);rw[hd,List.append_nil] at how;rw[ht] at uR;have HOW:=qH how;have Ee:=qH Ak;have EL:=qH uR;have oB:=qH hnl;have aw:=qH aj;clear how Ak uR hnl aj hd ht;go_wp2;go_ret;refine⟨_,rfl,⟨ns,?_,by rw[oB.out];exact HOW.out,Ee.out⟩,aw.out⟩;exact EL.out.trans ce.out
def Up(A:Nat→Prop)(n m:Nat):Nat→Prop:=fun k=>A k∨(n≤k∧k<m)
section
variable {A A':Nat→Prop} {w w':World} {tv lv:Value} {s:Sim} {rs:List Rw} {n m n' m':Nat}
theorem TRd.six(h:TRd A w tv s):∃aS cS aL cL cw cf f lf,tv= .agg #[.slice aS s.firm.length cS,.slice aL s.loose.length cL,.int .i64 cw,.int .i64 cf,.bool f,.int .i64 lf]:=by
 obtain⟨vS,vL,lf,cw,cf,rfl,hS,hL,_⟩:=h;obtain⟨aS,cS,rfl,_⟩:=hS.shape;obtain⟨aL,cL,rfl,_⟩:=hL.shape;exact⟨_,_,_,_,_,_,_,_,rfl⟩
theorem up_new(hn:w.heap.size≤n):∀k,Up A n m k→A k∨w.heap.size≤k:=fun k hk=>hk.imp id fun h=>Nat.le_trans hn h.1
theorem TRd.up_(h:TRd A w tv s)(hb:Below w.heap.size w w')(hn:w.heap.size≤n):TRd (Up A n m) w' tv s:=h.fr (D:=fun _=>False) (Fr.of_below hb) (fun _ h=>h.elim) (up_new hn)
theorem TRd.wide(h:TRd A w tv s)(hA:∀k,A' k→A k):TRd A' w tv s:=h.fr (D:=fun _=>False) (Fr.refl _ _) (fun _ h=>h.elim) (fun k hk=> .inl (hA k hk))
theorem TRd.down_(h:TRd (Up A n m) w tv s):TRd A w tv s:=h.wide (fun _ h=> .inl h)
theorem TRd.st{D:Nat→Prop}(h:TRd (Up A n m) w tv s)(hf:Fr D w w')(hD:∀k,D k→n≤k∧k<m):TRd (Up A n m) w' tv s:=h.fr hf (fun k hk=> .inr (hD k hk)) (fun _ h=> .inl h)
theorem RRd.up_(h:RRd A w lv rs)(hb:Below w.heap.size w w')(hn:w.heap.size≤n):RRd (Up A n m) w' lv rs:=h.fr (D:=fun _=>False) (Fr.of_below hb) (fun _ h=>h.elim) (up_new hn)
theorem RRd.wide(h:RRd A w lv rs)(hA:∀k,A' k→A k):RRd A' w lv rs:=h.fr (D:=fun _=>False) (Fr.refl _ _) (fun _ h=>h.elim) (fun k hk=> .inl (hA k hk))
theorem RRd.down_(h:RRd (Up A n m) w lv rs):RRd A w lv rs:=h.wide (fun _ h=> .inl h)
theorem RRd.st{D:Nat→Prop}(h:RRd (Up A n m) w lv rs)(hf:Fr D w w')(hD:∀k,D k→n≤k∧k<m):RRd (Up A n m) w' lv rs:=h.fr hf (fun k hk=> .inr (hD k hk)) (fun _ h=> .inl h)
theorem up_lt(hA:∀k,A k→k<w.heap.size)(hm:m≤w'.heap.size)(hs:w.heap.size≤w'.heap.size):∀k,Up A n m k→k<w'.heap.size:=fun k hk=>by
 rcases hk with h|h
 ·exact Nat.lt_of_lt_of_le (hA k h) hs
 ·omega
end
def sixC(w:World)(g:Nat)(v0 v1 v2 v3 v4 v5:Value):World:=((((((w.setCell ⟨g,0,none⟩ v0).setCell ⟨g,1,none⟩ v1).setCell ⟨g,2,none⟩ v2).setCell ⟨g,3,none⟩ v3).setCell ⟨g,4,none⟩ v4).setCell ⟨g,5,none⟩ v5)
theorem six_def(w:World)(g:Nat)(v0 v1 v2 v3 v4 v5:Value):((((((w.setCell ⟨g,0,none⟩ v0).setCell ⟨g,1,none⟩ v1).setCell ⟨g,2,none⟩ v2).setCell ⟨g,3,none⟩ v3).setCell ⟨g,4,none⟩ v4).setCell ⟨g,5,none⟩ v5)=sixC w g v0 v1 v2 v3 v4 v5:=rfl
theorem six_here{w:World}{g:Nat}{t:TypeId}{z0 z1 z2 z3 z4 z5:Value}(h:Dv.Blk w g t #[z0,z1,z2,z3,z4,z5])(v0 v1 v2 v3 v4 v5:Value):Dv.Blk (sixC w g v0 v1 v2 v3 v4 v5) g t #[v0,v1,v2,v3,v4,v5]:=blk_six h v0 v1 v2 v3 v4 v5
theorem six_far{w:World}{g b:Nat}{t:TypeId}{cs:Array Value}(h:Dv.Blk w b t cs)(hne:b≠g)(v0 v1 v2 v3 v4 v5:Value):Dv.Blk (sixC w g v0 v1 v2 v3 v4 v5) b t cs:=
 (((((h.far (p:=⟨g,0,none⟩) hne v0).far (p:=⟨g,1,none⟩) hne v1).far (p:=⟨g,2,none⟩) hne v2).far (p:=⟨g,3,none⟩) hne v3).far (p:=⟨g,4,none⟩) hne v4).far (p:=⟨g,5,none⟩) hne v5
theorem six_fr(w:World)(g:Nat)(v0 v1 v2 v3 v4 v5:Value):Fr (fun j=>j=g) w (sixC w g v0 v1 v2 v3 v4 v5):=fr_six (Fr.refl (fun j=>j=g) w) (.inl rfl) v0 v1 v2 v3 v4 v5
theorem wr8_any{A:Nat→Prop}{w:World}{tv bvv:Value}{s:Sim}(i:Int)(b:List UInt8)(h:TRd A w tv s)(hok:OK s)(hA:∀k,A k→k<w.heap.size)(lH:s.loose.length<100000)(hb:RB w bvv b):
  Calls Tryz.prog 42 #[tv,.int .i64 i,bvv] w (MadeD A w (s.write i b)):=by
 obtain⟨aS,cS,aL,cL,cw,cf,f,lf,rfl⟩:=h.six;obtain⟨aB,cB,rfl⟩:=rb_shape hb;obtain⟨W1,hW1⟩:∃W1,W1=((w.alloc (Obj.cells #[.slice aS s.firm.length cS,.slice aL s.loose.length cL,.int .i64 cw,.int .i64 cf,.bool f,.int .i64 lf] 29)).alloc (Obj.cells #[.slice none 0 0,.slice none 0 0,.int .i64 0,.int .i64 0,.bool false,.int .i64 0] 29)):=⟨_,rfl⟩
 have aj:Below w.heap.size w W1:=by rw[hW1];exact below2 w _ _
 have hs1:W1.heap.size=w.heap.size+2:=by rw[hW1];simp
 have hb2:Dv.Blk W1 (w.heap.size+1) 29 #[.slice none 0 0,.slice none 0 0,.int .i64 0,.int .i64 0,.bool false,.int .i64 0]:=by rw[hW1];exact heap_alloc2_new w _ _
 obtain⟨g2,hg2⟩:∃g2,g2=w.heap.size+1:=⟨_,rfl⟩
 rw[←hg2] at hb2;have hcall:=refwrite_any i b (h.up_ (n:=g2) (m:=g2+1) aj (by omega)) hok (up_lt hA (by omega) aj.size) lH (hb.below aj);obtain⟨s2,hs2⟩:∃s2,s2=s.write i b:=⟨_,rfl⟩
 rw[←hs2] at hcall⊢;obtain⟨r2,hr2⟩:∃r2,r2=s.wrote i b:=⟨_,rfl⟩
 rw[←hr2] at hcall;have HC:=qH hcall;have ae:=qH hb2;have aw:=qH aj;have dU:=qH hW1;have HG2:=qH hg2;have jo:=qH hs1;clear h hok hA lH hb hcall hb2 aj hW1 hs1 hs2 hr2;go_enter Tryz.func42,Tryz.ntmps42;go_wp2_with fail
 go_at_call 80;rw[←dU.out];refine HC.out.mono ?_;rintro e w1⟨Bj,rfl,ht,hb1⟩;obtain⟨dM,dH,eJ,eI,dP,dX,f1,lf1,rfl⟩:=ht.six;have hk2:=ae.out.below hb1 ae.out.lt;have bw:=qH hk2;have hlt:=hk2.lt;have HT:=qH ht;have an:=qH (aw.out.trans (hb1.mono aw.out.size));obtain⟨d0,d1,d2,d3,d4,d5⟩:=cl6 hk2;have df:=hk2.frozen;rw[←hg2];clear hk2 ht hb1 hg2;have hblk:=(blk_six bw.out (.slice dM s2.firm.length dH) (.slice eJ s2.loose.length eI) (.int .i64 dP) (.int .i64 dX) (.bool f1) (.int .i64 lf1)).alloc (Obj.cells #[.slice dM s2.firm.length dH,.slice eJ s2.loose.length eI,.int .i64 dP,.int .i64 dX,.bool f1,.int .i64 lf1] 29);have ay:=(fr_six (Fr.refl (fun k=>k=g2) w1) (.inl rfl) (.slice dM s2.firm.length dH) (.slice eJ s2.loose.length eI) (.int .i64 dP) (.int .i64 dX) (.bool f1) (.int .i64 lf1)).alloc (Obj.cells #[.slice dM s2.firm.length dH,.slice eJ s2.loose.length eI,.int .i64 dP,.int .i64 dX,.bool f1,.int .i64 lf1] 29);go_wp2_with (refine bodyPost_ret (v:= .agg #[.slice dM s2.firm.length dH,.slice eJ s2.loose.length eI,.int .i64 dP,.int .i64 dX,.bool f1,.int .i64 lf1]) (results_cell_row rfl _ _ g2 29 _ (0,0) _ rfl hblk Tryz.underlying29 rfl (six38 _ _ _ _ _ _)) rfl ?_)
 exact⟨_,rfl,(HT.out.st ay (fun k hk=>by omega)).down_,an.out.trans (ay.below (fun k hk=>by have:=HG2.out;omega) an.out.size)⟩
def BoxT(A:Nat→Prop)(w:World)(g:Nat)(s:Sim):Prop:=∃aS nS cS aL nL cL cw cf f lf,Dv.Blk w g 29 #[.slice aS nS cS,.slice aL nL cL,.int .i64 cw,.int .i64 cf,.bool f,.int .i64 lf]∧TRd A w (.agg #[.slice aS nS cS,.slice aL nL cL,.int .i64 cw,.int .i64 cf,.bool f,.int .i64 lf]) s
theorem TRd.sixn{A:Nat→Prop}{w:World}{tv:Value}{s:Sim}(h:TRd A w tv s):∃aS nS cS aL nL cL cw cf f lf,tv= .agg #[.slice aS nS cS,.slice aL nL cL,.int .i64 cw,.int .i64 cf,.bool f,.int .i64 lf]:=by
 obtain⟨vS,vL,lf,cw,cf,rfl,hS,hL,_⟩:=h;obtain⟨aS,cS,rfl,_⟩:=hS.shape;obtain⟨aL,cL,rfl,_⟩:=hL.shape;exact⟨_,_,_,_,_,_,_,_,_,_,rfl⟩
theorem BoxT.below{A:Nat→Prop}{w w':World}{g:Nat}{s:Sim}(h:BoxT A w g s)(hb:Below w.heap.size w w'):BoxT A w' g s:=by
 obtain⟨aS,nS,cS,aL,nL,cL,cw,cf,f,lf,h1,h2⟩:=h;exact⟨aS,nS,cS,aL,nL,cL,cw,cf,f,lf,h1.below hb h1.lt,h2.below hb⟩
theorem BoxT.store{A:Nat→Prop}{w:World}{g:Nat}{s:Sim}{z0 z1 z2 z3 z4 z5:Value}{aS aL:Option Addr}{nS cS nL cL:Nat}{cw cf lf:Int}{f:Bool}(h:Dv.Blk w g 29 #[z0,z1,z2,z3,z4,z5])(ht:TRd A w (.agg #[.slice aS nS cS,.slice aL nL cL,.int .i64 cw,.int .i64 cf,.bool f,.int .i64 lf]) s)(hg:A g):BoxT A (sixC w g (.slice aS nS cS) (.slice aL nL cL) (.int .i64 cw) (.int .i64 cf) (.bool f) (.int .i64 lf)) g s:=
 ⟨aS,nS,cS,aL,nL,cL,cw,cf,f,lf,six_here h _ _ _ _ _ _,ht.fr (six_fr w g _ _ _ _ _ _) (fun k hk=>by subst hk;exact hg) (fun _ h=> .inl h)⟩
theorem ok_writeL8{s:Sim}(h:OK s)(a:Nat)(ps:List (List UInt8)):∀k,s.loose.length+k<100000→OK (writeL s a ps k)
 |0,_=>h
 |k+1,hk=>by
  have:=writeL_loose s a ps k;exact(ok_writeL8 h a ps k (by omega)).write _ _ (by omega)
theorem chunk_at{ps:List (List UInt8)}(h:∀p∈ps,p.length=256){k i:Nat}(hk:k<ps.length)(hi:i<4):(chunkL64 ps.flatten).getD (k*4+i) []=(ps[k].drop (64*i)).take 64:=by
 have hl:=flat256 h;have ho:of64 ps.flatten=ps.length*4:=by unfold of64;omega
 unfold chunkL64;rw[ho,List.getD_eq_getElem?_getD,List.getElem?_map,List.getElem?_range (by omega),Option.map_some,Option.getD_some];unfold pc64;have e:ps.flatten.drop (256*k)=ps[k]++(ps.drop (k+1)).flatten:=by
  clear hl ho hi
  induction ps generalizing k with
  |nil=>cases hk
  |cons p ps ih=>
   cases k with
   |zero=>simp
   |succ k=>
    have hp:p.length=256:=h p (by simp);rw[List.flatten_cons,show 256*(k+1)=p.length+256*k by omega,←List.drop_drop,List.drop_append,List.drop_of_length_le (Nat.le_refl _),Nat.sub_self,List.drop_zero,List.nil_append];exact ih (fun q hq=>h q (by simp[hq])) (by simpa using hk)
 have hp:ps[k].length=256:=h _ (List.getElem_mem hk);rw[show 64*(k*4+i)=256*k+64*i by omega,←List.drop_drop,e,List.drop_append,Nat.sub_eq_zero_of_le (by omega),List.drop_zero,List.take_append,List.length_drop,hp,Nat.sub_eq_zero_of_le (by omega),List.take_zero,List.append_nil]
theorem leaveL{W:World}{tmps:Array Value}{g:Nat}{z0 z1 z2 z3 z4 z5 d:Value}(h4:tmps.getD 8 undef= .pointer (some ⟨g,0,none⟩))(h5:tmps.getD 9 undef=d)(hb:Dv.Blk W g 29 #[z0,z1,z2,z3,z4,z5]):
  (results Tryz.f43 tmps).run Tryz.prog W= .ok (.tuple #[.agg #[z0,z1,z2,z3,z4,z5],d]) W:=by
 obtain⟨r0,r1,r2,r3,r4,r5⟩:=cl6 hb;rw[Array.getD_eq_getD_getElem?] at h4 h5;simp[results,h4,h5,r0,r1,r2,r3,r4,r5,go_sem]
theorem lay8_any{A:Nat→Prop}{w:World}{tv lv:Value}{s:Sim}{rs:List Rw}{ps:List (List UInt8)}(ep ar:Nat)(h:TRd A w tv s)(hok:OK s)(hA:∀k,A k→k<w.heap.size)(hr:RR w lv rs)(hps:buildL rs=some ps)(bj:∀p∈ps,p.length=256)
  (hn:64≤s.firm.length) (hfit:ps.length≤aN s.firm.length) (hl:s.loose.length≤50000) (fg:ep≤1073741824) (har:ar≤1):
  Calls Tryz.prog 43 #[tv,lv,.int .i64 (ar:Int),.int .i64 (ep:Int)] w (MadeD2 A w (layS s ep ar ps) (.bool true)):=by
 have HN:=hok.n;have ha:=aN_le s.firm.length;have hpl:ps.length≤600:=by omega
 obtain⟨aS,cS,aL,cL,cw,cf,f,lf,rfl⟩:=h.six;obtain⟨Al,cl,rfl,_,_⟩:=rr_shape hr;obtain⟨W1,hW1⟩:∃W1,W1=((w.alloc (Obj.cells #[.slice aS s.firm.length cS,.slice aL s.loose.length cL,.int .i64 cw,.int .i64 cf,.bool f,.int .i64 lf] 29)).alloc (Obj.cells #[.slice none 0 0,.slice none 0 0,.int .i64 0,.int .i64 0,.bool false,.int .i64 0] 29)):=⟨_,rfl⟩
 have aj:Below w.heap.size w W1:=by rw[hW1];exact below2 w _ _
 have hs1:W1.heap.size=w.heap.size+2:=by rw[hW1];simp
 have hb4:Dv.Blk W1 w.heap.size 29 #[.slice aS s.firm.length cS,.slice aL s.loose.length cL,.int .i64 cw,.int .i64 cf,.bool f,.int .i64 lf]:=by rw[hW1];exact heap_alloc2_old w _ _
 have cz:Dv.Blk W1 (w.heap.size+1) 29 #[.slice none 0 0,.slice none 0 0,.int .i64 0,.int .i64 0,.bool false,.int .i64 0]:=by rw[hW1];exact heap_alloc2_new w _ _
 have hT:TRd (Up A w.heap.size (w.heap.size+2)) W1 (.agg #[.slice aS s.firm.length cS,.slice aL s.loose.length cL,.int .i64 cw,.int .i64 cf,.bool f,.int .i64 lf]) s:=h.up_ aj (Nat.le_refl _);have cE:∀k,Up A w.heap.size (w.heap.size+2) k→k<W1.heap.size:=up_lt hA (by omega) aj.size;have jm:=qH (show BoxT (Up A w.heap.size (w.heap.size+2)) W1 w.heap.size s from⟨_,_,_,_,_,_,_,_,_,_,hb4,hT⟩);obtain⟨n,hne⟩:∃n,n=s.firm.length:=⟨_,rfl⟩
 have al:=fun X=>layout8_any (n:Int) (by omega) (by omega) X
 rw[layJ_nat,layA_nat] at al;obtain⟨M,hM⟩:∃M,M=aN n:=⟨_,rfl⟩
 obtain⟨J,hJ⟩:∃J,J=jN n:=⟨_,rfl⟩
 rw[←hM,←hJ] at al;have hbg:=fun(k:Nat) (hk:k≤600) (X:World)=>begin8_any n ar k (by omega) har (by omega) X
 obtain⟨F,hF⟩:∃F,F=firstN n ar:=⟨_,rfl⟩
 rw[←hF] at hbg;have uV:=firstN_le (n:=n) (area:=ar) (k:=ps.length) (by omega) har (by rw[hne];exact hfit);rw[←hF] at uV;have oh:=fun X=>head8_any ep ar ps.length fg har (by omega) X
 have lT:=refBuild_any _ rs W1 (rr_below hr aj (Nat.le_refl _));rw[hps] at lT;have xn:¬(M:Int)<(ps.length:Int):=by rw[hM,hne];omega
 obtain⟨C,hC⟩:∃C,C=chunkL64 ps.flatten:=⟨_,rfl⟩
 have AX:C.length=ps.length*4:=by rw[hC];unfold chunkL64;rw[List.length_map,List.length_range];unfold of64;rw[flat256 bj];omega
 have Fm:∀k i (hk:k<ps.length),i<4→C.getD (k*4+i) []=(ps[k].drop (64*i)).take 64:=fun k i hk hi=>by rw[hC];exact chunk_at bj hk hi
 have hgo:layS s ep ar ps=((writeL s F C (ps.length*4)).flush.write ((ep%2:Nat):Int) (Str.headL ep ar ps.length)).flush:=by unfold layS;rw[←AX,hC,hF,hne]
 have wW:∀m,m≤2400→OK (writeL s F C m)∧(writeL s F C m).loose.length<60000:=fun m hm=>⟨ok_writeL8 hok _ _ m (by omega),by have:=writeL_loose s F C m;omega⟩
 obtain⟨SS,gd⟩:∃SS:Nat→Sim,SS=fun m=>writeL s F C m:=⟨_,rfl⟩
 have me:SS 0=s:=by rw[gd];rfl
 have yh:∀m,SS (m+1)=(SS m).write ((F+m:Nat):Int) (C.getD m []):=fun m=>by rw[gd];rfl
 have uC:∀m,m≤2400→OK (SS m)∧(SS m).loose.length<60000:=fun m hm=>by rw[gd];exact wW m hm
 have oW:layS s ep ar ps=((SS (ps.length*4)).flush.write ((ep%2:Nat):Int) (Str.headL ep ar ps.length)).flush:=by rw[hgo,gd]
 obtain⟨R,hR⟩:∃R,R=layS s ep ar ps:=⟨_,rfl⟩
 rw[←hR] at oW⊢;obtain⟨L,hL⟩:∃L,L=ps.length:=⟨_,rfl⟩
 rw[←hL] at oW oh xn hpl;rw[←me] at jm;have bh:=qH al;have Cp:=qH hbg;have ta:=qH oh;have cZ:=qH lT;have i7:=qH yh;have oQ:=qH uC;have rV:=qH oW;have Jt:=qH Fm;have BJ:=qH bj;have tH:=qH hL;have aw:=qH aj;have fN:=qH cE;have cI:=qH cz;have jo:=qH hs1;rw[←hne] at hW1;have dU:=qH hW1;have fi:=qH (show F≤4096 by omega);rw[←hne];have kB:64≤n:=by rw[hne];exact hn
 have di:n≤4096:=by rw[hne];exact HN
 clear h hok hA hr hps bj hn hfit hl HN ha aj hs1 hb4 cz hT cE al hM hJ hbg hF uV oh lT hC AX Fm hgo wW gd me yh uC oW hR hL hW1 hne;obtain⟨g4,hg4⟩:∃g4,g4=w.heap.size:=⟨_,rfl⟩
 rw[←hg4] at jm cI jo fN;have ci:=qH hg4;clear hg4;go_enter Tryz.func43,Tryz.ntmps43;go_wp2_with (go_at_call 30;refine(bh.out _).mono ?_;rintro e wq ⟨rfl,rfl⟩)
 rw[←dU.out,←ci.out];refine cZ.out.mono ?_;rintro e w1⟨pv,rfl,hop,hb1⟩;simp only[Option.isSome,Option.getD_some] at hop⊢;obtain⟨Ap,cp,rfl,hc1,hc2⟩:=hop.shape;rw[←tH.out] at hc2⊢;have b8:=qH (show PN w1 (g4+2) (.slice Ap L cp) ps from by rw[tH.out];exact(OP.pn hop).base_ (by have:=jo.out;omega));have Cs:=qH (jm.out.below hb1);have pX:=qH (cI.out.below hb1 cI.out.lt);have pU:=qH (aw.out.trans (hb1.mono aw.out.size));have vA:=qH (fun k hk=>Nat.lt_of_lt_of_le (fN.out k hk) hb1.size);clear hop hb1 jm cI cZ;go_wp2_with fail
 simp only[show ¬(M<L) by omega,decide_false]
 go_loopw [15] (fun i wr=>∃k:Nat,k≤L∧i= .int .i64 k∧BoxT (Up A g4 (g4+2)) wr g4 (SS (k*4))∧Fr (fun j=>j=g4) w1 wr) (fun i _=>L-(intOf i).toNat)
 case atStart=>exact⟨0,Nat.zero_le _,rfl,Cs.out,Fr.refl _ _⟩
 case round=>
  obtain⟨k,hk,rfl,bA,ay⟩:=hrel;have vk:=qH bA;have sX:=qH ay;clear bA ay;by_cases hlt:k<L
  ·go_wp2_with fail
   go_loopw [16] (fun i wr=>∃j:Nat,j≤4∧i= .int .i64 j∧BoxT (Up A g4 (g4+2)) wr g4 (SS (k*4+j))∧Fr (fun j=>j=g4) w1 wr) (fun i _=>4-(intOf i).toNat)
   case atStart=>exact⟨0,Nat.zero_le _,rfl,vk.out,sX.out⟩
   case round=>
    obtain⟨j,hj,rfl,bA,ay⟩:=hrel;by_cases jT:j<4
    ·obtain⟨aS,nS,cS,aL,nL,cL,cw,cf,f,lf,hblk,htr⟩:=bA
     obtain⟨sm,hsm⟩:∃sm,sm=SS (k*4+j):=⟨_,rfl⟩
     rw[←hsm] at htr;have bG:=oQ.out (k*4+j) (by omega);rw[←hsm] at bG;have iV:=b8.out.fr ay (fun q hq=>by omega);have p7:k<ps.length:=by rw[←tH.out];exact hlt
     obtain⟨bP,oP,u,rfl,hu,bi,zV⟩:=pn_at iV p7;clear zV;have bj:=BJ.out _ (List.getElem_mem p7);have mf:bP≠g4:=by
      obtain⟨A',c',he,_,_,h3⟩:=iV;rcases h3 with h3|⟨b2,o2,h4,h5,_⟩
      ·rw[h3] at p7;cases p7
      ·injection he with he _ _
       rw[←he] at h4;injection h4 with h4;injection h4 with h4 _;omega
     have my:bP<wr.heap.size:=World.block_lt_of_cell? wr _ hu;obtain⟨Au,cu,ah,zH,He,xi⟩:=id bi;rw[bj] at ah zH;subst ah;obtain⟨bu,ou,rfl,Jc,kf⟩:∃bu ou,Au=some ⟨bu,ou,none⟩∧bu<wr.heap.size∧∀q (hq:q<ps[k].length),wr.cell? ⟨bu,ou+q,none⟩=some (bv ps[k][q]):=by
      rcases xi with h3|⟨b2,o2,h4,h5,h6⟩
      ·rw[h3] at bj;cases bj
      ·exact⟨b2,o2,h4,h5,h6⟩
     have hcut:=RB.cut (q:=64*j) (n:=64) (show RB wr (.slice (some ⟨bu,ou,none⟩) ps[k].length cu) ps[k] by rw[bj];exact bi) (by rw[bj];omega);rw[←Jt.out k j p7 jT] at hcut;obtain⟨pc,hpc⟩:∃pc,pc=C.getD (k*4+j) []:=⟨_,rfl⟩
     rw[←hpc] at hcut;have hnx:=i7.out (k*4+j);rw[←hsm,←hpc] at hnx;have hwr:=fun X (hX:Below wr.heap.size wr X)=>wr8_any (((F+k*4:Nat):Int)+(j:Int)) pc (htr.below hX) bG.1 (fun q hq=>Nat.lt_of_lt_of_le (vA.out q hq) (Nat.le_trans ay.size hX.size)) (by omega) (hcut.below hX)
     rw[show((F+k*4:Nat):Int)+(j:Int)=((F+(k*4+j):Nat):Int) by omega,←hnx,show((F+(k*4+j):Nat):Int)=((F+k*4:Nat):Int)+(j:Int) by omega] at hwr;have hbg:=fun X=>Cp.out k (by omega) X
     have iK:=qH hwr;have lY:=qH hbg;have HU:=qH hu;have az:=qH hblk;have dr:=qH ay;have fZ:=qH mf;obtain⟨F4,qK⟩:∃F4,F4=F+k*4:=⟨_,rfl⟩
     rw[←qK] at iK lY;have J4:F4≤7000:=by have:=fi.out;omega
     obtain⟨z0,z1,z2,z3,z4,z5⟩:=cl6 hblk;have q1:(0:Int)≤(k:Int):=by omega
     have q2:(k:Int)<(L:Int):=by omega
     have q3:(0:Int)≤(j:Int):=by omega
     have q4:(j:Int)<4:=by omega
     have q5:(256:Int)≤(cu:Int):=by omega
     have q6:¬cu=64*j:=by omega
     have hx1:IntKind.i64.wrap (64*(j:Int))=64*(j:Int):=by rw[IntKind.wrap_i64];omega
     have hx3:IntKind.i64.wrap ((F4:Int)+(j:Int))=(F4:Int)+(j:Int):=by rw[IntKind.wrap_i64];omega
     have hx2:IntKind.i64.wrap (64*(j:Int)+64)=64*(j:Int)+64:=by rw[IntKind.wrap_i64];omega
     clear htr bG iV bi kf zH xi hcut hpc hnx hwr hbg hblk ay qK hsm bj p7 Jc;go_wp2_with fail
     refine wp_region_held_drew (S:=fun X=>Fr (fun q=>q=g4) wr X) (by kernel_rfl) ((Fr.refl _ _).drew) (fun hHeld=>?_);refine tkC 1 ?_;refine tkC 2 ?_;refine tkC 3 ?_;refine tkC 5 ?_;refine tkC 7 ?_;refine tkC 8 ?_;refine tkC 9 ?_;refine tkA 10 (v:=?_) ?_ ?_;rotate_left
     ·intro W hSw;have hq:=(World.cell?_of_block (a:=⟨bP,oP+k,none⟩) (hSw.block bP my fZ.out)).trans HU.out;go_simp;try (with_reducible rfl)
     try simp only[Act.put,zA,zB,zC]
     refine tkC 11 ?_;refine tkC 12 ?_;refine tkC 13 ?_;refine tkC 14 ?_;refine tkC 15 ?_;refine tkA 16 (v:=?_) ?_ ?_;rotate_left
     ·intro W hSw;go_simp;rw[if_pos ⟨by omega,by omega⟩,if_pos ⟨by omega,by omega⟩,show(64*(j:Int)).toNat=64*j by omega,if_neg (by omega),show(64*(j:Int)+64).toNat-64*j=64 by omega];try (with_reducible rfl)
     try simp only[Act.put,zA,zB,zC]
     refine rdA (rs:= [0,4]) ?_;refine AllReadyH.cons (o:=⟨some 49,.load 29 (.tmp 4),29,"ref.go:81",#[],none⟩) rfl (fun K hK=>?_) (AllReadyH.cons (o:=⟨some 53,.call ⟨.value (.func 81),#[.tmp 50,.tmp 51,.tmp 52],#[3,3,3]⟩,3,"ref.go:81",#[⟨1,.data⟩,⟨2,.data⟩,⟨3,.data⟩],none⟩) rfl (fun K hK=>?_) AllReadyH.nil)
     ·go_simp
      refine hK.out _ _ ?_ (fun _=>?_)
      ·exact hHeld
      clear hK K;try simp only[Act.put,zA,zB,zC]
      refine rdA (rs:= [4]) ?_;refine arC (fun K hK=>?_);go_simp;refine(lY.out _).mono ?_;rintro e wq⟨rfl,rfl⟩;refine hK.out _ _ ?_ (fun _=>?_)
      ·exact hHeld
      clear hK K;try simp only[Act.put,zA,zB,zC]
      refine tkC 6 ?_;refine rdA (rs:= [17]) ?_;refine arC (fun K hK=>?_);go_simp;refine(iK.out _ ((Below.refl wr.heap.size wr).drew)).mono ?_;rintro e w5⟨uA,rfl,fR,au⟩;obtain⟨fM,fF,ft,fK,fL,fD,fI,fh,f5,lf5,rfl⟩:=fR.sixn;have mp:=qH fR;have tE:Below wr.heap.size wr w5:=((Below.refl wr.heap.size wr).drew).trans au;have ax:=qH tE;clear fR au z0 z1 z2 z3 z4 z5;refine hK.out _ _ ?_ (fun hHeld=>?_)
      ·exact(Fr.of_below ax.out)
      clear hK K;try simp only[Act.put,zA,zB,zC]
      refine rdA (rs:= [18]) ?_;refine arC (fun K hK=>?_);have bD:=az.out.below ax.out az.out.lt;obtain⟨z0,z1,z2,z3,z4,z5⟩:=cl6 bD;have df:=bD.frozen;have dl:=bD.lt;go_simp;try rw[six_def]
      refine hK.out _ _ ?_ (fun hHeld=>?_)
      ·exact((Fr.of_below ax.out).trans (six_fr w5 g4 (.slice fM fF ft) (.slice fK fL fD) (.int .i64 fI) (.int .i64 fh) (.bool f5) (.int .i64 lf5)) (fun q hq=> .inl hq))
      clear hK K;try simp only[Act.put,zA,zB,zC]
      refine wpAnyH_done (by kernel_rfl) ?_ _;have gE:=qH (BoxT.store (az.out.below ax.out az.out.lt) mp.out (.inr ⟨Nat.le_refl _,by omega⟩));have eH:=qH (dr.out.trans ((Fr.of_below (D:=fun q=>q=g4) ax.out).trans (six_fr w5 g4 (.slice fM fF ft) (.slice fK fL fD) (.int .i64 fI) (.int .i64 fh) (.bool f5) (.int .i64 lf5)) (fun q hq=> .inl hq)) (fun q hq=> .inl hq));generalize (sixC w5 g4 (.slice fM fF ft) (.slice fK fL fD) (.int .i64 fI) (.int .i64 fh) (.bool f5) (.int .i64 lf5))=wf at gE eH hHeld⊢;clear hHeld;go_wp2;go_roundw
      case rel=>exact⟨j+1,by omega,by go_num,gE.out,eH.out⟩
      case measure=>simp[intOf];omega
     ·go_simp
      refine(lY.out _).mono ?_;rintro e wq⟨rfl,rfl⟩;refine hK.out _ _ ?_ (fun _=>?_)
      ·exact hHeld
      clear hK K;try simp only[Act.put,zA,zB,zC]
      refine tkC 6 ?_;refine rdA (rs:= [0]) ?_;refine arC (fun K hK=>?_);go_simp;refine hK.out _ _ ?_ (fun _=>?_)
      ·exact hHeld
      clear hK K;try simp only[Act.put,zA,zB,zC]
      refine rdA (rs:= [17]) ?_;refine arC (fun K hK=>?_);go_simp;refine(iK.out _ ((Below.refl wr.heap.size wr).drew)).mono ?_;rintro e w5⟨uA,rfl,fR,au⟩;obtain⟨fM,fF,ft,fK,fL,fD,fI,fh,f5,lf5,rfl⟩:=fR.sixn;have mp:=qH fR;have tE:Below wr.heap.size wr w5:=((Below.refl wr.heap.size wr).drew).trans au;have ax:=qH tE;clear fR au z0 z1 z2 z3 z4 z5;refine hK.out _ _ ?_ (fun hHeld=>?_)
      ·exact(Fr.of_below ax.out)
      clear hK K;try simp only[Act.put,zA,zB,zC]
      refine rdA (rs:= [18]) ?_;refine arC (fun K hK=>?_);have bD:=az.out.below ax.out az.out.lt;obtain⟨z0,z1,z2,z3,z4,z5⟩:=cl6 bD;have df:=bD.frozen;have dl:=bD.lt;go_simp;try rw[six_def]
      refine hK.out _ _ ?_ (fun hHeld=>?_)
      ·exact((Fr.of_below ax.out).trans (six_fr w5 g4 (.slice fM fF ft) (.slice fK fL fD) (.int .i64 fI) (.int .i64 fh) (.bool f5) (.int .i64 lf5)) (fun q hq=> .inl hq))
      clear hK K;try simp only[Act.put,zA,zB,zC]
      refine wpAnyH_done (by kernel_rfl) ?_ _;have gE:=qH (BoxT.store (az.out.below ax.out az.out.lt) mp.out (.inr ⟨Nat.le_refl _,by omega⟩));have eH:=qH (dr.out.trans ((Fr.of_below (D:=fun q=>q=g4) ax.out).trans (six_fr w5 g4 (.slice fM fF ft) (.slice fK fL fD) (.int .i64 fI) (.int .i64 fh) (.bool f5) (.int .i64 lf5)) (fun q hq=> .inl hq)) (fun q hq=> .inl hq));generalize (sixC w5 g4 (.slice fM fF ft) (.slice fK fL fD) (.int .i64 fI) (.int .i64 fh) (.bool f5) (.int .i64 lf5))=wf at gE eH hHeld⊢;clear hHeld;go_wp2;go_roundw
      case rel=>exact⟨j+1,by omega,by go_num,gE.out,eH.out⟩
      case measure=>simp[intOf];omega
    ·have DU:j=4:=by omega
     subst DU;have EG:=qH bA;have Dc:=qH ay;clear bA ay;go_wp2;go_roundw
     case rel=>exact⟨k+1,by omega,by go_num,by rw[show(k+1)*4=k*4+4 by omega];exact EG.out,Dc.out⟩
     case measure=>simp[intOf];omega
  ·have hkk:k=L:=by omega
   subst hkk;obtain⟨aS,nS,cS,aL,nL,cL,cw,cf,f,lf,hblk,htr⟩:=vk.out;obtain⟨sm,hsm⟩:∃sm,sm=SS (k*4):=⟨_,rfl⟩
   have hgo:=rV.out;rw[←hsm] at htr hgo;have bG:=oQ.out (k*4) (by omega);rw[←hsm] at bG;have hfl:=refflush_any htr bG.1 (fun q hq=>Nat.lt_of_lt_of_le (vA.out q hq) sX.out.size);have eT:=bG.1.flush;have ku:sm.flush.loose.length<60000:=Nat.lt_of_le_of_lt (flush_loose sm) bG.2;obtain⟨s2,hs2⟩:∃s2,s2=sm.flush:=⟨_,rfl⟩
   rw[←hs2] at hfl eT ku hgo;obtain⟨s3,hs3⟩:∃s3,s3=s2.write ((ep%2:Nat):Int) (Str.headL ep ar k):=⟨_,rfl⟩
   have zm:OK s3:=by rw[hs3];exact eT.write _ _ (by omega)
   rw[←hs3] at hgo;have iJ:=qH hfl;have az:=qH hblk;have lL:=qH eT;have te:=qH ku;have yX:=qH zm;have uW:=qH hs3;have HR:=qH hgo;obtain⟨z0,z1,z2,z3,z4,z5⟩:=cl6 hblk;clear htr hfl hblk bG eT zm ku hs2 hs3 hsm hgo;go_wp2_with fail
   go_at_call 44;refine iJ.out.mono ?_;rintro e w5⟨uA,rfl,fR,au⟩;obtain⟨fM,fF,ft,fK,fL,fD,fI,fh,f5,lf5,rfl⟩:=fR.sixn;have bD:=az.out.below au az.out.lt;obtain⟨z0,z1,z2,z3,z4,z5⟩:=cl6 bD;have df:=bD.frozen;have dl:=bD.lt;have gE:=qH (BoxT.store bD fR (.inr ⟨Nat.le_refl _,by omega⟩));have eH:=qH (sX.out.trans ((Fr.of_below (D:=fun q=>q=g4) au).trans (six_fr w5 g4 (.slice fM fF ft) (.slice fK fL fD) (.int .i64 fI) (.int .i64 fh) (.bool f5) (.int .i64 lf5)) (fun q hq=> .inl hq)) (fun q hq=> .inl hq));clear bD fR au;go_wp2_with fail
   rw[six_def];clear z0 z1 z2 z3 z4 z5 df dl;generalize (sixC w5 g4 (.slice fM fF ft) (.slice fK fL fD) (.int .i64 fI) (.int .i64 fh) (.bool f5) (.int .i64 lf5))=wr at gE eH⊢;obtain⟨aS,nS,cS,aL,nL,cL,cw,cf,f,lf,hblk,htr⟩:=gE.out;have hwr:=fun(X:World) (v:Value) (hX:Below wr.heap.size wr X) (hv:RB X v (Str.headL ep ar k))=>wr8_any ((ep%2:Nat):Int) _ (htr.below hX) lL.out (fun q hq=>Nat.lt_of_lt_of_le (vA.out q hq) (Nat.le_trans eH.out.size hX.size)) (by have:=te.out;omega) hv
   rw[←uW.out] at hwr;have iK:=qH hwr;have az:=qH hblk;clear hblk htr hwr;refine wp_region_held_drew (S:=fun X=>Fr (fun q=>q=g4) wr X) (by kernel_rfl) ((Fr.refl _ _).drew) (fun hHeld=>?_);refine tkC 1 ?_;refine tkC 2 ?_;refine tkC 3 ?_;refine tkC 4 ?_;refine tkC 5 ?_;refine tkC 6 ?_;refine rdA (rs:= [0,7]) ?_;refine AllReadyH.cons (o:=⟨some 69,.load 29 (.tmp 4),29,"ref.go:85",#[],none⟩) rfl (fun K hK=>?_) (AllReadyH.cons (o:=⟨some 76,.call ⟨.value (.func 82),#[.tmp 72,.tmp 73,.tmp 75],#[3,3,3]⟩,46,"ref.go:85",#[⟨3,.data⟩,⟨4,.data⟩,⟨6,.data⟩],none⟩) rfl (fun K hK=>?_) AllReadyH.nil)
   ·have z0:=(az.out.below (Below.refl wr.heap.size wr) az.out.lt).cell 0
    have z1:=(az.out.below (Below.refl wr.heap.size wr) az.out.lt).cell 1;have z2:=(az.out.below (Below.refl wr.heap.size wr) az.out.lt).cell 2;have z3:=(az.out.below (Below.refl wr.heap.size wr) az.out.lt).cell 3;have z4:=(az.out.below (Below.refl wr.heap.size wr) az.out.lt).cell 4;have z5:=(az.out.below (Below.refl wr.heap.size wr) az.out.lt).cell 5;simp at z0 z1 z2 z3 z4 z5;go_simp;clear z0 z1 z2 z3 z4 z5;refine hK.out _ _ ?_ (fun _=>?_)
    ·exact hHeld
    clear hK K;try simp only[Act.put,zA,zB,zC]
    refine rdA (rs:= [7]) ?_;refine arC (fun K hK=>?_);go_simp;refine(ta.out _).mono ?_;rintro e w6⟨v6,rfl,bI,ap⟩;have sC:=qH (RB.own bI);obtain⟨A6,c6,rfl,_⟩:=own_shape bI;have tL:Below wr.heap.size wr w6:=((Below.refl wr.heap.size wr).drew).trans ap;have aE:=qH tL;clear bI ap;refine hK.out _ _ ?_ (fun hHeld=>?_)
    ·exact(Fr.of_below aE.out)
    clear hK K;try simp only[Act.put,zA,zB,zC]
    refine rdA (rs:= [8]) ?_;refine arC (fun K hK=>?_);go_simp;refine(iK.out _ _ aE.out sC.out).mono ?_;rintro e w7⟨Bi,rfl,jn,br⟩;obtain⟨fY,fS,fO,fV,fT,fW,fP,fU,f7,lf7,rfl⟩:=jn.sixn;have t9:=qH jn;have bo:=qH (aE.out.trans (br.mono aE.out.size));clear jn br;refine hK.out _ _ ?_ (fun hHeld=>?_)
    ·exact(Fr.of_below bo.out)
    clear hK K;try simp only[Act.put,zA,zB,zC]
    refine rdA (rs:= [9]) ?_;refine arC (fun K hK=>?_);have bD:=az.out.below bo.out az.out.lt;obtain⟨z0,z1,z2,z3,z4,z5⟩:=cl6 bD;have df:=bD.frozen;have dl:=bD.lt;go_simp;try rw[six_def]
    refine hK.out _ _ ?_ (fun hHeld=>?_)
    ·exact((Fr.of_below bo.out).trans (six_fr w7 g4 (.slice fY fS fO) (.slice fV fT fW) (.int .i64 fP) (.int .i64 fU) (.bool f7) (.int .i64 lf7)) (fun q hq=> .inl hq))
    clear hK K;try simp only[Act.put,zA,zB,zC]
    refine wpAnyH_done (by kernel_rfl) ?_ _;have mY:=qH (BoxT.store (az.out.below bo.out az.out.lt) t9.out (.inr ⟨Nat.le_refl _,by omega⟩));have kt:=qH (eH.out.trans ((Fr.of_below (D:=fun q=>q=g4) bo.out).trans (six_fr w7 g4 (.slice fY fS fO) (.slice fV fT fW) (.int .i64 fP) (.int .i64 fU) (.bool f7) (.int .i64 lf7)) (fun q hq=> .inl hq)) (fun q hq=> .inl hq));clear bD z0 z1 z2 z3 z4 z5 df dl;generalize (sixC w7 g4 (.slice fY fS fO) (.slice fV fT fW) (.int .i64 fP) (.int .i64 fU) (.bool f7) (.int .i64 lf7))=wf at mY kt hHeld⊢;clear hHeld;obtain⟨aS,nS,cS,aL,nL,cL,cw,cf,f,lf,hblk,htr⟩:=mY.out;have hfl:=refflush_any htr yX.out (fun q hq=>Nat.lt_of_lt_of_le (vA.out q hq) kt.out.size);rw[←HR.out] at hfl;have tF:=qH hfl;have ro:=qH (show Dv.Blk wf (g4+1) 29 _ from pX.out.same (kt.out.block (g4+1) pX.out.lt (by omega)));obtain⟨z0,z1,z2,z3,z4,z5⟩:=cl6 hblk;clear htr hfl;go_wp2_with fail
    go_at_call 44;refine tF.out.mono ?_;rintro e w9⟨Bg,rfl,je,fx⟩;obtain⟨gR,gj,g9,gP,gb,gX,gk,gT,f9,lf9,rfl⟩:=je.sixn;have ez:=ro.out.below fx ro.out.lt;obtain⟨z0,z1,z2,z3,z4,z5⟩:=cl6 ez;have df:=ez.frozen;have dl:=ez.lt;have pM:=qH je;have fG:=qH fx;have lh:=qH ez;clear ez je fx hblk;have on:=six_here lh.out (.slice gR gj g9) (.slice gP gb gX) (.int .i64 gk) (.int .i64 gT) (.bool f9) (.int .i64 lf9);have jF:=((kt.out.mono (E:=fun q=>q=g4∨q=g4+1) (fun q hq=> .inl hq)).trans ((Fr.of_below (D:=fun q=>q=g4∨q=g4+1) fG.out).trans (six_fr w9 (g4+1) (.slice gR gj g9) (.slice gP gb gX) (.int .i64 gk) (.int .i64 gT) (.bool f9) (.int .i64 lf9)) (fun q hq=> .inl (.inr hq))) (fun q hq=> .inl hq))
    have ew:=qH jF;clear jF;go_wp2_with (rw[six_def];refine bodyPost_ret (v:= .tuple #[.agg #[.slice gR gj g9,.slice gP gb gX,.int .i64 gk,.int .i64 gT,.bool f9,.int .i64 lf9],.bool true]) (leaveL rfl rfl on) rfl ⟨_,rfl,(pM.out.st (six_fr w9 (g4+1) (.slice gR gj g9) (.slice gP gb gX) (.int .i64 gk) (.int .i64 gT) (.bool f9) (.int .i64 lf9)) (fun q hq=>by omega)).down_,pU.out.trans (ew.out.below (fun q hq=>by have:=ci.out;omega) pU.out.size)⟩)
    
   ·go_simp
    refine(ta.out _).mono ?_;rintro e w6⟨v6,rfl,bI,ap⟩;have sC:=qH (RB.own bI);obtain⟨A6,c6,rfl,_⟩:=own_shape bI;have tL:Below wr.heap.size wr w6:=((Below.refl wr.heap.size wr).drew).trans ap;have aE:=qH tL;clear bI ap;refine hK.out _ _ ?_ (fun hHeld=>?_)
    ·exact(Fr.of_below aE.out)
    clear hK K;try simp only[Act.put,zA,zB,zC]
    refine rdA (rs:= [0]) ?_;refine arC (fun K hK=>?_);obtain⟨z0,z1,z2,z3,z4,z5⟩:=cl6 (az.out.below aE.out az.out.lt);go_simp;clear z0 z1 z2 z3 z4 z5;refine hK.out _ _ ?_ (fun _=>?_)
    ·exact hHeld
    clear hK K;try simp only[Act.put,zA,zB,zC]
    refine rdA (rs:= [8]) ?_;refine arC (fun K hK=>?_);go_simp;refine(iK.out _ _ aE.out sC.out).mono ?_;rintro e w7⟨Bi,rfl,jn,br⟩;obtain⟨fY,fS,fO,fV,fT,fW,fP,fU,f7,lf7,rfl⟩:=jn.sixn;have t9:=qH jn;have bo:=qH (aE.out.trans (br.mono aE.out.size));clear jn br;refine hK.out _ _ ?_ (fun hHeld=>?_)
    ·exact(Fr.of_below bo.out)
    clear hK K;try simp only[Act.put,zA,zB,zC]
    refine rdA (rs:= [9]) ?_;refine arC (fun K hK=>?_);have bD:=az.out.below bo.out az.out.lt;obtain⟨z0,z1,z2,z3,z4,z5⟩:=cl6 bD;have df:=bD.frozen;have dl:=bD.lt;go_simp;try rw[six_def]
    refine hK.out _ _ ?_ (fun hHeld=>?_)
    ·exact((Fr.of_below bo.out).trans (six_fr w7 g4 (.slice fY fS fO) (.slice fV fT fW) (.int .i64 fP) (.int .i64 fU) (.bool f7) (.int .i64 lf7)) (fun q hq=> .inl hq))
    clear hK K;try simp only[Act.put,zA,zB,zC]
    refine wpAnyH_done (by kernel_rfl) ?_ _;have mY:=qH (BoxT.store (az.out.below bo.out az.out.lt) t9.out (.inr ⟨Nat.le_refl _,by omega⟩));have kt:=qH (eH.out.trans ((Fr.of_below (D:=fun q=>q=g4) bo.out).trans (six_fr w7 g4 (.slice fY fS fO) (.slice fV fT fW) (.int .i64 fP) (.int .i64 fU) (.bool f7) (.int .i64 lf7)) (fun q hq=> .inl hq)) (fun q hq=> .inl hq));clear bD z0 z1 z2 z3 z4 z5 df dl;generalize (sixC w7 g4 (.slice fY fS fO) (.slice fV fT fW) (.int .i64 fP) (.int .i64 fU) (.bool f7) (.int .i64 lf7))=wf at mY kt hHeld⊢;clear hHeld;obtain⟨aS,nS,cS,aL,nL,cL,cw,cf,f,lf,hblk,htr⟩:=mY.out;have hfl:=refflush_any htr yX.out (fun q hq=>Nat.lt_of_lt_of_le (vA.out q hq) kt.out.size);rw[←HR.out] at hfl;have tF:=qH hfl;have ro:=qH (show Dv.Blk wf (g4+1) 29 _ from pX.out.same (kt.out.block (g4+1) pX.out.lt (by omega)));obtain⟨z0,z1,z2,z3,z4,z5⟩:=cl6 hblk;clear htr hfl;go_wp2_with fail
    go_at_call 44;refine tF.out.mono ?_;rintro e w9⟨Bg,rfl,je,fx⟩;obtain⟨gR,gj,g9,gP,gb,gX,gk,gT,f9,lf9,rfl⟩:=je.sixn;have ez:=ro.out.below fx ro.out.lt;obtain⟨z0,z1,z2,z3,z4,z5⟩:=cl6 ez;have df:=ez.frozen;have dl:=ez.lt;have pM:=qH je;have fG:=qH fx;have lh:=qH ez;clear ez je fx hblk;have on:=six_here lh.out (.slice gR gj g9) (.slice gP gb gX) (.int .i64 gk) (.int .i64 gT) (.bool f9) (.int .i64 lf9);have jF:=((kt.out.mono (E:=fun q=>q=g4∨q=g4+1) (fun q hq=> .inl hq)).trans ((Fr.of_below (D:=fun q=>q=g4∨q=g4+1) fG.out).trans (six_fr w9 (g4+1) (.slice gR gj g9) (.slice gP gb gX) (.int .i64 gk) (.int .i64 gT) (.bool f9) (.int .i64 lf9)) (fun q hq=> .inl (.inr hq))) (fun q hq=> .inl hq))
    have ew:=qH jF;clear jF;go_wp2_with (rw[six_def];refine bodyPost_ret (v:= .tuple #[.agg #[.slice gR gj g9,.slice gP gb gX,.int .i64 gk,.int .i64 gT,.bool f9,.int .i64 lf9],.bool true]) (leaveL rfl rfl on) rfl ⟨_,rfl,(pM.out.st (six_fr w9 (g4+1) (.slice gR gj g9) (.slice gP gb gX) (.int .i64 gk) (.int .i64 gT) (.bool f9) (.int .i64 lf9)) (fun q hq=>by omega)).down_,pU.out.trans (ew.out.below (fun q hq=>by have:=ci.out;omega) pU.out.size)⟩)
def TRs(A:Nat→Prop)(w:World)(tv:Value)(x:Ss):Prop:=∃aS nS cS aL nL cL cw cf f lf aR nR cR,tv= .agg #[.slice aS nS cS,.slice aL nL cL,.int .i64 cw,.int .i64 cf,.bool f,.int .i64 lf,.slice aR nR cR,.int .i64 (x.ep:Int),.int .i64 (x.ar:Int),.int .i64 (x.us:Int),.int .i64 (x.fr:Int)]∧TRd A w (.agg #[.slice aS nS cS,.slice aL nL cL,.int .i64 cw,.int .i64 cf,.bool f,.int .i64 lf]) x.d∧RRd A w (.slice aR nR cR) x.rows
section
variable {A A' D:Nat→Prop} {w w':World} {tv:Value} {x:Ss} {n m:Nat}
theorem TRs.fr(h:TRs A w tv x)(hf:Fr D w w')(hD:∀k,D k→A k)(hA:∀k,A' k→A k∨w.heap.size≤k):TRs A' w' tv x:=by
 obtain⟨aS,nS,cS,aL,nL,cL,cw,cf,f,lf,aR,nR,cR,h1,h2,h3⟩:=h;exact⟨aS,nS,cS,aL,nL,cL,cw,cf,f,lf,aR,nR,cR,h1,h2.fr hf hD hA,h3.fr hf hD hA⟩
theorem TRs.below(h:TRs A w tv x)(hb:Below w.heap.size w w'):TRs A w' tv x:=h.fr (D:=fun _=>False) (Fr.of_below hb) (fun _ h=>h.elim) (fun _ h=> .inl h)
theorem TRs.down_(h:TRs (Up A n m) w tv x):TRs A w tv x:=h.fr (D:=fun _=>False) (Fr.refl _ _) (fun _ h=>h.elim) (fun k hk=> .inl (.inl hk))
theorem TRs.st(h:TRs (Up A n m) w tv x)(hf:Fr D w w')(hD:∀k,D k→n≤k∧k<m):TRs (Up A n m) w' tv x:=h.fr hf (fun k hk=> .inr (hD k hk)) (fun _ h=> .inl h)
theorem fb_rad{e:TypeId}{base:Nat}{v:Value}{l:List UInt8}(h:FB e w base v l)(hA:∀k,A k→k<base):RAd A w v l:=by
 refine⟨h.rb,fun hl k hk ha=>?_⟩;rcases h with ⟨_,h0⟩|⟨g,c,cur,fr,rfl,hb,_⟩
 ·exact hl h0
 ·have hkb:g=k:=by simpa [Value.ownBlock] using hk
  subst hkb;have:=hA _ ha;omega
theorem or_rrd{eR:TypeId}{base:Nat}{v:Value}{rs:List Rw}(h:OR 5 eR w base v rs)(hA:∀k,A k→k<base):RRd A w v rs:=by
 obtain⟨us,rfl,ho,hf⟩:=h;exact RVP.own ho (fun x hx=>fb_rad (hf x hx) hA) hA
theorem oc_crd{eR:TypeId}{base:Nat}{v:Value}{rs:List Chg}(h:OC 5 eR w base v rs)(hA:∀k,A k→k<base):CRd A w v rs:=by
 obtain⟨us,rfl,ho,hf⟩:=h;rcases ho.2 with ⟨rfl,h0⟩|⟨g,cap,cur,rfl,hb,hg,hnc,hcm,hcs,ht⟩
 ·have:us= []:=List.eq_nil_of_length_eq_zero h0
  subst this;exact⟨none,0,rfl,Nat.le_refl _,Nat.zero_le _,.inl rfl⟩
 ·refine⟨some ⟨g,0,none⟩,cap,by rw[List.length_map],by rw[List.length_map];exact hnc,hcm,.inr ⟨g,0,rfl,(Array.getElem?_eq_some_iff.1 hg).1,fun j hj=>?_⟩⟩
  rw[List.length_map] at hj;obtain⟨c1,c2,c3⟩:=chCells_get us j hj;have h1:=ho.cells (g:=g) rfl _ _ c1;have h2:=ho.cells (g:=g) rfl _ _ c2;have h3:=ho.cells (g:=g) rfl _ _ c3;rw[Addr.add_lit] at h1 h2 h3;refine⟨by simpa using h1,⟨us[j].2,by simpa [Nat.add_assoc] using h2,?_⟩,by simpa [Nat.add_assoc] using h3⟩;have:=fb_rad (hf us[j] (List.getElem_mem hj)) hA
  simpa using this
end
theorem row_blk{w:World}{g:Nat}{t:TypeId}{old:Array Value}(h:Dv.Blk w g t old)(cs:Array Value):Dv.Blk (w.setRow g cs) g t cs:=setRow_heap w g old cs t (0,0) h
theorem row_fr(w:World)(g:Nat)(cs:Array Value):Fr (fun j=>j=g) w (w.setRow g cs):=(Fr.refl (fun j=>j=g) w).setRow (b:=g) (.inl rfl) cs
theorem info42:(Tryz.prog.info? 42).map (fun i=>(i.zero,i.size))=some (some (.agg #[.slice none 0 0,.slice none 0 0,.int .i64 0,.int .i64 0,.bool false,.int .i64 0,.slice none 0 0,.int .i64 0,.int .i64 0,.int .i64 0,.int .i64 0]),11):=by kernel_rfl
theorem elv42(v0 v1 v2 v3 v4 v5 v6 v7 v8 v9 v10:Value):(Tryz.prog.info? 42).map (·.size)=some (#[v0,v1,v2,v3,v4,v5,v6,v7,v8,v9,v10]:Array Value).size:=by
 cases h:Tryz.prog.info? 42 with
 |none=>have:=info42;rw[h] at this;cases this
 |some i=>
  have:=info42;rw[h] at this;simp only[Option.map_some,Option.some.injEq,Prod.mk.injEq] at this;rw[Option.map_some,this.2];rfl
theorem all11(aS aL aR:Option Addr)(nS cS nL cL nR cR:Nat)(cw cf lf i0 i1 i2 i3:Int)(f:Bool):(#[.slice aS nS cS,.slice aL nL cL,.int .i64 cw,.int .i64 cf,.bool f,.int .i64 lf,.slice aR nR cR,.int .i64 i0,.int .i64 i1,.int .i64 i2,.int .i64 i3]:Array Value).all (·.oneCell')=true:=by simp[Value.oneCell']
theorem leaveO8{W:World}{tmps:Array Value}{g:Nat}{z0 z1 z2 z3 z4 z5 z6 z7 z8 z9 aX d:Value}(h4:tmps.getD 2 undef= .pointer (some ⟨g,0,none⟩))(h5:tmps.getD 3 undef=d)(hb:Dv.Blk W g 42 #[z0,z1,z2,z3,z4,z5,z6,z7,z8,z9,aX]):
  (results Tryz.f15 tmps).run Tryz.prog W= .ok (.tuple #[.agg #[z0,z1,z2,z3,z4,z5,z6,z7,z8,z9,aX],d]) W:=by
 obtain⟨r0,r1,r2,r3,r4,r5,r6,r7,r8,r9,wU⟩:=cl11 hb;rw[Array.getD_eq_getD_getElem?] at h4 h5;simp[results,h4,h5,r0,r1,r2,r3,r4,r5,r6,r7,r8,r9,wU,go_sem]
theorem leaveC8{W:World}{tmps:Array Value}{g:Nat}{z0 z1 z2 z3 z4 z5 z6 z7 z8 z9 aX d:Value}(h4:tmps.getD 4 undef= .pointer (some ⟨g,0,none⟩))(h5:tmps.getD 5 undef=d)(hb:Dv.Blk W g 42 #[z0,z1,z2,z3,z4,z5,z6,z7,z8,z9,aX]):
  (results Tryz.f24 tmps).run Tryz.prog W= .ok (.tuple #[.agg #[z0,z1,z2,z3,z4,z5,z6,z7,z8,z9,aX],d]) W:=by
 obtain⟨r0,r1,r2,r3,r4,r5,r6,r7,r8,r9,wU⟩:=cl11 hb;rw[Array.getD_eq_getD_getElem?] at h4 h5;simp[results,h4,h5,r0,r1,r2,r3,r4,r5,r6,r7,r8,r9,wU,go_sem]
theorem leaveK8{W:World}{tmps:Array Value}{g:Nat}{z0 z1 z2 z3 z4 z5 z6 z7 z8 z9 aX d:Value}(h4:tmps.getD 2 undef= .pointer (some ⟨g,0,none⟩))(h5:tmps.getD 3 undef=d)(hb:Dv.Blk W g 42 #[z0,z1,z2,z3,z4,z5,z6,z7,z8,z9,aX]):
  (results Tryz.f19 tmps).run Tryz.prog W= .ok (.tuple #[.agg #[z0,z1,z2,z3,z4,z5,z6,z7,z8,z9,aX],d]) W:=by
 obtain⟨r0,r1,r2,r3,r4,r5,r6,r7,r8,r9,wU⟩:=cl11 hb;rw[Array.getD_eq_getD_getElem?] at h4 h5;simp[results,h4,h5,r0,r1,r2,r3,r4,r5,r6,r7,r8,r9,wU,go_sem]
def GivesT8(A:Nat→Prop)(w:World)(x:Ss)(n:Nat)(e:Ending)(w':World):Prop:=∃ex,e= .returned (.tuple #[ex,.int .i64 (n:Int)])∧TRs A w' ex x∧Below w.heap.size w w'
theorem trs_mk{A:Nat→Prop}{w:World}{x:Ss}{aS aL:Option Addr}{nS cS nL cL:Nat}{cw cf lf:Int}{f:Bool}{aR:Option Addr}{nR cR:Nat}(h1:TRd A w (.agg #[.slice aS nS cS,.slice aL nL cL,.int .i64 cw,.int .i64 cf,.bool f,.int .i64 lf]) x.d)(h2:RRd A w (.slice aR nR cR) x.rows):TRs A w (.agg #[.slice aS nS cS,.slice aL nL cL,.int .i64 cw,.int .i64 cf,.bool f,.int .i64 lf,.slice aR nR cR,.int .i64 (x.ep:Int),.int .i64 (x.ar:Int),.int .i64 (x.us:Int),.int .i64 (x.fr:Int)]) x:=⟨_,_,_,_,_,_,_,_,_,_,_,_,_,rfl,h1,h2⟩
theorem ck8_over{A:Nat→Prop}{w:World}{tv:Value}{x:Ss}(h:TRs A w tv x)(hA:∀k,A k→k<w.heap.size)(he:x.ep=1073741824):
  Calls Tryz.prog 19 #[tv] w (GivesT8 A w x 32):=by
 obtain⟨aS,nS,cS,aL,nL,cL,cw,cf,f,lf,aR,nR,cR,rfl,hT0,eW⟩:=h;obtain⟨W1,hW1⟩:∃W1,W1=((w.alloc (Obj.cells #[.slice aS nS cS,.slice aL nL cL,.int .i64 cw,.int .i64 cf,.bool f,.int .i64 lf,.slice aR nR cR,.int .i64 (x.ep:Int),.int .i64 (x.ar:Int),.int .i64 (x.us:Int),.int .i64 (x.fr:Int)] 42)).alloc (Obj.cells #[.slice none 0 0,.slice none 0 0,.int .i64 0,.int .i64 0,.bool false,.int .i64 0,.slice none 0 0,.int .i64 0,.int .i64 0,.int .i64 0,.int .i64 0] 42)):=⟨_,rfl⟩
 have aj:Below w.heap.size w W1:=by rw[hW1];exact below2 w _ _
 have hs1:W1.heap.size=w.heap.size+2:=by rw[hW1];simp
 have hb1:Dv.Blk W1 w.heap.size 42 #[.slice aS nS cS,.slice aL nL cL,.int .i64 cw,.int .i64 cf,.bool f,.int .i64 lf,.slice aR nR cR,.int .i64 (x.ep:Int),.int .i64 (x.ar:Int),.int .i64 (x.us:Int),.int .i64 (x.fr:Int)]:=by rw[hW1];exact heap_alloc2_old w _ _
 have hb2:Dv.Blk W1 (w.heap.size+1) 42 #[.slice none 0 0,.slice none 0 0,.int .i64 0,.int .i64 0,.bool false,.int .i64 0,.slice none 0 0,.int .i64 0,.int .i64 0,.int .i64 0,.int .i64 0]:=by rw[hW1];exact heap_alloc2_new w _ _
 have hT:TRd (Up A w.heap.size (w.heap.size+2)) W1 (.agg #[.slice aS nS cS,.slice aL nL cL,.int .i64 cw,.int .i64 cf,.bool f,.int .i64 lf]) x.d:=hT0.up_ aj (Nat.le_refl _);have du:RRd (Up A w.heap.size (w.heap.size+2)) W1 (.slice aR nR cR) x.rows:=eW.up_ aj (Nat.le_refl _);have cE:∀k,Up A w.heap.size (w.heap.size+2) k→k<W1.heap.size:=up_lt hA (by omega) aj.size;have ia:=qH (trs_mk hT du);obtain⟨q,hq⟩:∃q:Int,q=((x.ep:Nat):Int):=⟨_,rfl⟩
 have hq2:q=1073741824:=by omega
 rw[←hq] at hW1 hb1 ia;rw[←hq];subst hq2;have bw:=qH hb2;have aw:=qH aj;have dU:=qH hW1;clear hA he aj hs1 hb1 hb2 hT du cE hW1 hq hT0 eW;go_enter Tryz.func19,Tryz.ntmps19;obtain⟨g4,hg4⟩:∃g4,g4=w.heap.size+1:=⟨_,rfl⟩
 rw[←hg4] at bw;have ci:=qH hg4;clear hg4;go_wp2_with (first|(rw[←dU.out,←ci.out];(refine wpList_store_row rfl 42 (.tmp 2) (.tmp 9) rfl g4 #[.slice aS nS cS,.slice aL nL cL,.int .i64 cw,.int .i64 cf,.bool f,.int .i64 lf,.slice aR nR cR,.int .i64 1073741824,.int .i64 (x.ar:Int),.int .i64 (x.us:Int),.int .i64 (x.fr:Int)] rfl rfl 42 #[.slice none 0 0,.slice none 0 0,.int .i64 0,.int .i64 0,.bool false,.int .i64 0,.slice none 0 0,.int .i64 0,.int .i64 0,.int .i64 0,.int .i64 0] bw.out (elv42 _ _ _ _ _ _ _ _ _ _ _) rfl (all11 _ _ _ _ _ _ _ _ _ _ _ _ _ _ _ _ _) ?_))|(refine bodyPost_ret (v:= .tuple #[.agg #[.slice aS nS cS,.slice aL nL cL,.int .i64 cw,.int .i64 cf,.bool f,.int .i64 lf,.slice aR nR cR,.int .i64 1073741824,.int .i64 (x.ar:Int),.int .i64 (x.us:Int),.int .i64 (x.fr:Int)],.int .i64 32]) (leaveK8 rfl rfl (row_blk bw.out _)) rfl ⟨_,rfl,(ia.out.st (row_fr W1 g4 _) (fun q hq=>by have:=ci.out;omega)).down_,aw.out.trans ((row_fr W1 g4 _).below (fun q hq=>by have:=ci.out;omega) aw.out.size)⟩))
theorem ck8_any{A:Nat→Prop}{w:World}{tv:Value}{x:Ss}(h:TRs A w tv x)(hA:∀k,A k→k<w.heap.size)(hG:GoodX x)(he:x.ep<1073741824):
  Calls Tryz.prog 19 #[tv] w (GivesT8 A w (ckS x) 0):=by
 obtain⟨aS,nS,cS,aL,nL,cL,cw,cf,f,lf,aR,nR,cR,rfl,hT0,eW⟩:=h;obtain⟨W1,hW1⟩:∃W1,W1=((w.alloc (Obj.cells #[.slice aS nS cS,.slice aL nL cL,.int .i64 cw,.int .i64 cf,.bool f,.int .i64 lf,.slice aR nR cR,.int .i64 (x.ep:Int),.int .i64 (x.ar:Int),.int .i64 (x.us:Int),.int .i64 (x.fr:Int)] 42)).alloc (Obj.cells #[.slice none 0 0,.slice none 0 0,.int .i64 0,.int .i64 0,.bool false,.int .i64 0,.slice none 0 0,.int .i64 0,.int .i64 0,.int .i64 0,.int .i64 0] 42)):=⟨_,rfl⟩
 have aj:Below w.heap.size w W1:=by rw[hW1];exact below2 w _ _
 have hs1:W1.heap.size=w.heap.size+2:=by rw[hW1];simp
 have hb1:Dv.Blk W1 w.heap.size 42 #[.slice aS nS cS,.slice aL nL cL,.int .i64 cw,.int .i64 cf,.bool f,.int .i64 lf,.slice aR nR cR,.int .i64 (x.ep:Int),.int .i64 (x.ar:Int),.int .i64 (x.us:Int),.int .i64 (x.fr:Int)]:=by rw[hW1];exact heap_alloc2_old w _ _
 have hb2:Dv.Blk W1 (w.heap.size+1) 42 #[.slice none 0 0,.slice none 0 0,.int .i64 0,.int .i64 0,.bool false,.int .i64 0,.slice none 0 0,.int .i64 0,.int .i64 0,.int .i64 0,.int .i64 0]:=by rw[hW1];exact heap_alloc2_new w _ _
 have hT:TRd (Up A w.heap.size (w.heap.size+2)) W1 (.agg #[.slice aS nS cS,.slice aL nL cL,.int .i64 cw,.int .i64 cf,.bool f,.int .i64 lf]) x.d:=hT0.up_ aj (Nat.le_refl _);have du:RRd (Up A w.heap.size (w.heap.size+2)) W1 (.slice aR nR cR) x.rows:=eW.up_ aj (Nat.le_refl _);have cE:∀k,Up A w.heap.size (w.heap.size+2) k→k<W1.heap.size:=up_lt hA (by omega) aj.size;obtain⟨ps,hps,hpl⟩:=hG.fit;have har:=hG.ar;have qw:=lay8_any (x.ep+1) (1-x.ar) hT hG.ok cE du.rr hps (built_256 hps) hG.n hpl (by have:=hG.lo;omega) (by omega) (by omega);obtain⟨lp,ke⟩:∃a,a=1-x.ar:=⟨_,rfl⟩
 have cj:ckS x={d:=layS x.d (x.ep+1) lp ps,rows:=x.rows,ep:=x.ep+1,ar:=lp,us:=0,fr:=0}:=by unfold ckS;rw[hps,ke];rfl
 rw[←ke,show((x.ep+1:Nat):Int)=(x.ep:Int)+1 by omega] at qw;have sJ:(1:Int)-(x.ar:Int)=(lp:Int):=by omega
 have EU:((x.ep:Int)==1073741824)=false:=by rw[beq_eq_false_iff_ne];omega
 obtain⟨y,hy⟩:∃y,y=ckS x:=⟨_,rfl⟩
 rw[←hy] at cj⊢;have mV:=qH cj;have BX:=qH qw;have bM:=qH du;have aD:=qH hb1;have bw:=qH hb2;have aw:=qH aj;have dU:=qH hW1;clear hA hG aj hs1 hb1 hb2 hT du cE hW1 hT0 eW hps hpl qw ke cj hy;obtain⟨g2,hg2⟩:∃g2,g2=w.heap.size:=⟨_,rfl⟩
 obtain⟨g4,hg4⟩:∃g4,g4=w.heap.size+1:=⟨_,rfl⟩
 rw[←hg4] at bw;rw[←hg2] at aD;have ci:=qH hg4;have HG2:=qH hg2;clear hg4 hg2;go_enter Tryz.func19,Tryz.ntmps19;go_wp2_with fail
 rw[←dU.out,←ci.out,←HG2.out];try rw[sJ]
 refine BX.out.mono ?_;rintro e w7⟨Bi,rfl,jn,br⟩;obtain⟨fY,fS,fO,fV,fT,fW,fP,fU,f7,lf7,rfl⟩:=jn.sixn;have t9:=qH jn;have sV:=qH (bM.out.below br);have bo:=qH br;have af:=aD.out.below br aD.out.lt;have zl:=af.lt;obtain⟨z0,z1,z2,z3,z4,z5,z6,z7,z8,z9,aX⟩:=cl11 af;clear jn br af;have cX:=qH ((bw.out.below bo.out bw.out.lt).alloc (Obj.cells #[.slice fY fS fO,.slice fV fT fW,.int .i64 fP,.int .i64 fU,.bool f7,.int .i64 lf7] 29));have ew:=qH (((Fr.refl (fun j=>j=g4) w7).alloc (Obj.cells #[.slice fY fS fO,.slice fV fT fW,.int .i64 fP,.int .i64 fU,.bool f7,.int .i64 lf7] 29)).trans (row_fr (w7.alloc (Obj.cells #[.slice fY fS fO,.slice fV fT fW,.int .i64 fP,.int .i64 fU,.bool f7,.int .i64 lf7] 29)) g4 #[.slice fY fS fO,.slice fV fT fW,.int .i64 fP,.int .i64 fU,.bool f7,.int .i64 lf7,.slice aR nR cR,.int .i64 ((x.ep:Int)+1),.int .i64 (lp:Int),.int .i64 0,.int .i64 0]) (fun q hq=> .inl hq));go_wp2_with (first|(refine wpList_store_row rfl 42 (.tmp 2) (.tmp 33) rfl g4 #[.slice fY fS fO,.slice fV fT fW,.int .i64 fP,.int .i64 fU,.bool f7,.int .i64 lf7,.slice aR nR cR,.int .i64 ((x.ep:Int)+1),.int .i64 (lp:Int),.int .i64 0,.int .i64 0] rfl rfl 42 #[.slice none 0 0,.slice none 0 0,.int .i64 0,.int .i64 0,.bool false,.int .i64 0,.slice none 0 0,.int .i64 0,.int .i64 0,.int .i64 0,.int .i64 0] cX.out (elv42 _ _ _ _ _ _ _ _ _ _ _) rfl (all11 _ _ _ _ _ _ _ _ _ _ _ _ _ _ _ _ _) ?_)|(refine bodyPost_ret (v:= .tuple #[.agg #[.slice fY fS fO,.slice fV fT fW,.int .i64 fP,.int .i64 fU,.bool f7,.int .i64 lf7,.slice aR nR cR,.int .i64 ((x.ep:Int)+1),.int .i64 (lp:Int),.int .i64 0,.int .i64 0],.int .i64 0]) (leaveK8 rfl rfl (row_blk cX.out _)) rfl ?_))
 refine⟨_,rfl,?_,aw.out.trans (((Fr.of_below (D:=fun q=>q=g4) bo.out).trans ew.out (fun q hq=> .inl hq)).below (fun q hq=>by have:=ci.out;omega) aw.out.size)⟩;have hg:=ci.out;rw[mV.out];exact trs_mk (x:={d:=layS x.d (x.ep+1) lp ps,rows:=x.rows,ep:=x.ep+1,ar:=lp,us:=0,fr:=0}) ((t9.out.st ew.out (fun q hq=>by omega)).down_) ((sV.out.st ew.out (fun q hq=>by omega)).down_)
theorem leaveF8{W:World}{tmps:Array Value}{g:Nat}{z0 z1 z2 z3 z4 z5 d:Value}(h4:tmps.getD 2 undef= .pointer (some ⟨g,0,none⟩))(h5:tmps.getD 3 undef=d)(hb:Dv.Blk W g 29 #[z0,z1,z2,z3,z4,z5]):
  (results Tryz.f13 tmps).run Tryz.prog W= .ok (.tuple #[.agg #[z0,z1,z2,z3,z4,z5],d]) W:=by
 obtain⟨r0,r1,r2,r3,r4,r5⟩:=cl6 hb;rw[Array.getD_eq_getD_getElem?] at h4 h5;simp[results,h4,h5,r0,r1,r2,r3,r4,r5,go_sem]
theorem format8_any{A:Nat→Prop}{w:World}{tv:Value}{s:Sim}(h:TRd A w tv s)(hok:OK s)(hA:∀k,A k→k<w.heap.size)(hn:64≤s.firm.length)(hl:s.loose.length≤40000):
  Calls Tryz.prog 13 #[tv] w (MadeD2 A w (formatS s) (.int .i64 0)):=by
 have HN:=hok.n;obtain⟨aS,cS,aL,cL,cw,cf,f,lf,rfl⟩:=h.six;obtain⟨W1,hW1⟩:∃W1,W1=((w.alloc (Obj.cells #[.slice aS s.firm.length cS,.slice aL s.loose.length cL,.int .i64 cw,.int .i64 cf,.bool f,.int .i64 lf] 29)).alloc (Obj.cells #[.slice none 0 0,.slice none 0 0,.int .i64 0,.int .i64 0,.bool false,.int .i64 0] 29)):=⟨_,rfl⟩
 have aj:Below w.heap.size w W1:=by rw[hW1];exact below2 w _ _
 have hs1:W1.heap.size=w.heap.size+2:=by rw[hW1];simp
 have hb4:Dv.Blk W1 w.heap.size 29 #[.slice aS s.firm.length cS,.slice aL s.loose.length cL,.int .i64 cw,.int .i64 cf,.bool f,.int .i64 lf]:=by rw[hW1];exact heap_alloc2_old w _ _
 have cz:Dv.Blk W1 (w.heap.size+1) 29 #[.slice none 0 0,.slice none 0 0,.int .i64 0,.int .i64 0,.bool false,.int .i64 0]:=by rw[hW1];exact heap_alloc2_new w _ _
 have hT:TRd (Up A w.heap.size (w.heap.size+2)) W1 (.agg #[.slice aS s.firm.length cS,.slice aL s.loose.length cL,.int .i64 cw,.int .i64 cf,.bool f,.int .i64 lf]) s:=h.up_ aj (Nat.le_refl _);have cE:∀k,Up A w.heap.size (w.heap.size+2) k→k<W1.heap.size:=up_lt hA (by omega) aj.size;have jm:=qH (show BoxT (Up A w.heap.size (w.heap.size+2)) W1 w.heap.size s from⟨_,_,_,_,_,_,_,_,_,_,hb4,hT⟩);obtain⟨n,hne⟩:∃n,n=s.firm.length:=⟨_,rfl⟩
 have al:=fun X=>layout8_any (n:Int) (by omega) (by omega) X
 rw[layJ_nat,layA_nat] at al;obtain⟨M,hM⟩:∃M,M=aN n:=⟨_,rfl⟩
 obtain⟨J,hJ⟩:∃J,J=jN n:=⟨_,rfl⟩
 have Jb:J≤1024:=by rw[hJ];have:=jN_le n;omega
 rw[←hM,←hJ] at al;obtain⟨p,hp,hpl⟩:∃p,buildL []=some p∧p.length≤aN s.firm.length:=by
  obtain⟨p,hp⟩:=build_nil;have:=aN_pos hn;exact⟨[p],hp,by simp;omega⟩
 have hfo:formatS s=layS (writeL s 0 (List.replicate (2+J) []) (2+J)).flush 1 0 p:=by unfold formatS;rw[hp,hJ,hne];rfl
 obtain⟨SS,gd⟩:∃SS:Nat→Sim,SS=fun m=>writeL s 0 (List.replicate (2+J) []) m:=⟨_,rfl⟩
 have me:SS 0=s:=by rw[gd];rfl
 have yh:∀m,SS (m+1)=(SS m).write (m:Int) []:=fun m=>by
  rw[gd];show(writeL s 0 _ m).write ((0+m:Nat):Int) _=_;have e:(List.replicate (2+J) ([]:List UInt8)).getD m []= []:=by
   rw[List.getD_eq_getElem?_getD,List.getElem?_replicate];split <;>rfl
  rw[Nat.zero_add,e]
 have uC:∀m,m≤2400→OK (SS m)∧(SS m).loose.length<43000∧(SS m).firm.length=s.firm.length:=fun m hm=>by
  rw[gd];exact⟨ok_writeL8 hok _ _ m (by omega),(by have:=writeL_loose s 0 (List.replicate (2+J) []) m;show(writeL s 0 (List.replicate (2+J) []) m).loose.length<43000;omega),congrArg List.length (writeL_firm s 0 _ m)⟩
 have sB:formatS s=layS (SS (2+J)).flush 1 0 p:=by rw[hfo,gd]
 obtain⟨R,hR⟩:∃R,R=formatS s:=⟨_,rfl⟩
 rw[←hR] at sB⊢;rw[←me] at jm;rw[←hne] at hpl hW1 uC;have bh:=qH al;have i7:=qH yh;have oQ:=qH uC;have rV:=qH sB;have aw:=qH aj;have fN:=qH cE;have cI:=qH cz;have jo:=qH hs1;have dU:=qH hW1;have Fl:=qH hp;have cW:=qH hpl;have kB:¬(n:Int)<64:=by omega
 have di:n≤4096:=by omega
 rw[←hne];clear h hok hA hn hl HN aj hs1 hb4 cz hT cE al hM hJ hp hpl hfo gd me yh uC sB hR hW1 hne;obtain⟨g4,hg4⟩:∃g4,g4=w.heap.size:=⟨_,rfl⟩
 rw[←hg4] at jm cI jo fN;have ci:=qH hg4;clear hg4;go_enter Tryz.func13,Tryz.ntmps13;go_wp2_with (go_at_call 30;refine(bh.out _).mono ?_;rintro e wq ⟨rfl,rfl⟩)
 rw[←dU.out,←ci.out]
 go_loopw [6] (fun i wr=>∃k:Nat,k≤2+J∧i= .int .i64 k∧BoxT (Up A g4 (g4+2)) wr g4 (SS k)∧Fr (fun j=>j=g4) W1 wr) (fun i _=>2+J-(intOf i).toNat)
 case atStart=>exact⟨0,Nat.zero_le _,rfl,jm.out,Fr.refl _ _⟩
 case round=>
  obtain⟨k,hk,rfl,bA,ay⟩:=hrel;obtain⟨aS,nS,cS,aL,nL,cL,cw,cf,f,lf,hblk,htr⟩:=bA;have dr:=qH ay;have bG:=oQ.out k (by omega);have kG:=fun q hq=>Nat.lt_of_lt_of_le (fN.out q hq) ay.size
  by_cases hlt:k<2+J
  ·have hwr:=wr8_any (k:Int) [] htr bG.1 kG (by omega) (RB.nil_ _)
   rw[←i7.out] at hwr;obtain⟨s2,hs2⟩:∃s2,s2=SS (k+1):=⟨_,rfl⟩
   rw[←hs2] at hwr;have fE:=qH hs2;have iK:=qH hwr;have az:=qH hblk;obtain⟨z0,z1,z2,z3,z4,z5⟩:=cl6 hblk;clear htr hwr hs2 bG kG ay hblk;have q1:(k:Int)<2+(J:Int):=by omega
   go_wp2_with fail
   go_at_call 42;refine iK.out.mono ?_;rintro e w5⟨uA,rfl,fR,au⟩;obtain⟨fM,fF,ft,fK,fL,fD,fI,fh,f5,lf5,rfl⟩:=fR.sixn;have bD:=az.out.below au az.out.lt;clear z0 z1 z2 z3 z4 z5;obtain⟨z0,z1,z2,z3,z4,z5⟩:=cl6 bD;have df:=bD.frozen;have dl:=bD.lt;have gE:=qH (BoxT.store bD fR (.inr ⟨Nat.le_refl _,by omega⟩));have eH:=qH (dr.out.trans ((Fr.of_below (D:=fun q=>q=g4) au).trans (six_fr w5 g4 (.slice fM fF ft) (.slice fK fL fD) (.int .i64 fI) (.int .i64 fh) (.bool f5) (.int .i64 lf5)) (fun q hq=> .inl hq)) (fun q hq=> .inl hq));rw[fE.out] at gE;clear bD fR au;go_wp2;rw[six_def];go_roundw
   case rel=>exact⟨k+1,by omega,by go_num,gE.out,eH.out⟩
   case measure=>simp[intOf];omega
  ·have hkk:k=2+J:=by omega
   subst hkk;have hfl:=refflush_any htr bG.1 kG;have eT:=bG.1.flush;have ku:(SS (2+J)).flush.loose.length<43000:=Nat.lt_of_le_of_lt (flush_loose _) bG.2.1;have hfn:(SS (2+J)).flush.firm.length=n:=(flush_firm _).trans bG.2.2;have hgo:=rV.out;obtain⟨s2,hs2⟩:∃s2,s2=(SS (2+J)).flush:=⟨_,rfl⟩
   rw[←hs2] at hfl eT ku hgo hfn;have iJ:=qH hfl;have az:=qH hblk;have lL:=qH eT;have te:=qH ku;have Ft:=qH hfn;have HR:=qH hgo;have jK:=qH kG;have ro:=qH (cI.out.same (ay.block (g4+1) cI.out.lt (by omega)));have uZ:¬((2+J:Nat):Int)<2+(J:Int):=by omega
   obtain⟨z0,z1,z2,z3,z4,z5⟩:=cl6 hblk;clear htr hfl hblk bG eT ku hs2 hgo kG ay hfn;go_wp2_with fail
   go_at_call 44;refine iJ.out.mono ?_;rintro e w5⟨uA,rfl,fR,au⟩;have hcall:=lay8_any (rs:= []) (ps:=p) 1 0 fR lL.out (fun q hq=>Nat.lt_of_lt_of_le (jK.out q hq) au.size) (rr_nil w5) Fl.out (built_256 Fl.out) (by rw[Ft.out];omega) (by rw[Ft.out];exact cW.out) (by have:=te.out;omega) (by decide) (by decide);rw[←HR.out] at hcall;obtain⟨fM,fF,ft,fK,fL,fD,fI,fh,f5,lf5,rfl⟩:=fR.sixn;have fm:=qH hcall;have ax:=qH au;clear hcall fR au z0 z1 z2 z3 z4 z5;go_wp2_with fail
   go_at_call 43;refine fm.out.mono ?_;rintro e w9⟨Bg,rfl,je,fx⟩;obtain⟨gR,gj,g9,gP,gb,gX,gk,gT,f9,lf9,rfl⟩:=je.sixn;have tZ:=ax.out.trans (fx.mono ax.out.size);have bD:=ro.out.below tZ ro.out.lt;obtain⟨z0,z1,z2,z3,z4,z5⟩:=cl6 bD;have df:=bD.frozen;have dl:=bD.lt;have pM:=qH je;have C8:=qH tZ;have lh:=qH bD;clear bD je fx tZ;have on:=(six_here lh.out (.slice gR gj g9) (.slice gP gb gX) (.int .i64 gk) (.int .i64 gT) (.bool f9) (.int .i64 lf9)).alloc (Obj.cells #[.slice gR gj g9,.slice gP gb gX,.int .i64 gk,.int .i64 gT,.bool f9,.int .i64 lf9] 29);have jF:=(six_fr w9 (g4+1) (.slice gR gj g9) (.slice gP gb gX) (.int .i64 gk) (.int .i64 gT) (.bool f9) (.int .i64 lf9)).alloc (Obj.cells #[.slice gR gj g9,.slice gP gb gX,.int .i64 gk,.int .i64 gT,.bool f9,.int .i64 lf9] 29);have ew:=qH jF;clear jF;go_wp2_with (rw[six_def];refine bodyPost_ret (v:= .tuple #[.agg #[.slice gR gj g9,.slice gP gb gX,.int .i64 gk,.int .i64 gT,.bool f9,.int .i64 lf9],.int .i64 0]) (leaveF8 rfl rfl on) rfl ⟨_,rfl,(pM.out.st ew.out (fun q hq=>by omega)).down_,aw.out.trans (((dr.out.mono (E:=fun q=>q=g4∨q=g4+1) (fun q hq=> .inl hq)).trans ((Fr.of_below (D:=fun q=>q=g4∨q=g4+1) C8.out).trans ew.out (fun q hq=> .inl (.inr hq))) (fun q hq=> .inl hq)).below (fun q hq=>by have:=ci.out;omega) aw.out.size)⟩)
end Go.Proofs.YtmbkaedhllfoeaaGreat
