/-
  Texts of the proof, put together.
-/
import Derived.Test.YtmbkaedhllfoeaaGreatKPEA
import Derived.Test.YtmbkaedhllfoeaaGreatKPEH
import Derived.Test.YtmbkaedhllfoeaaGreatKPWr
set_option maxRecDepth 100000
set_option maxHeartbeats 4000000
set_option linter.unusedVariables false
namespace Go.Proofs.YtmbkaedhllfoeaaGreat
open Go.RowKit Go.Rst Go.Dv Go.Crc Go.Str Go.Pg
def putS(x:Ss)(cs:List Chg):Ss:=
 {d:=(writeL x.d (2+x.us) (partsL (x.ep:Int) (x.fr:Int) cs).1 (partsL (x.ep:Int) (x.fr:Int) cs).1.length).flush,rows:=applyL x.rows cs,ep:=x.ep,ar:=x.ar,us:=x.us+(partsL (x.ep:Int) (x.fr:Int) cs).1.length,fr:=x.fr+1}
def commitR(x:Ss)(cs:List Chg):Ss×Nat:=
 if cs= [] then (x,0) else if cs.any longC=true then (x,3) else
 if (partsL (x.ep:Int) (x.fr:Int) cs).2=false∨jN x.n<(partsL (x.ep:Int) (x.fr:Int) cs).1.length then (x,21) else
 if fitB x.n (applyL x.rows cs)=false then (x,21) else
 if x.us+(partsL (x.ep:Int) (x.fr:Int) cs).1.length≤jN x.n then (putS x cs,0) else
 if x.ep=1073741824 then (x,32) else (putS (ckS x) cs,0)
def CO(M:Nat→Prop)(w:World)(lv:Value)(cs:List Chg):Prop:=∀w',Fr M w w'→RC w' lv cs
theorem CO.rc{M:Nat→Prop}{w:World}{lv:Value}{cs:List Chg}(h:CO M w lv cs):RC w lv cs:=h w (Fr.refl _ _)
theorem rows_val{x:Ss}(hG:GoodX x):∀r∈x.rows,r.2.length≤150:=by
 obtain⟨ps,hps,_⟩:=hG.fit;obtain⟨_,_,ht⟩:=tree_of hps;obtain⟨ho,_⟩:=tree_pre ht;intro r hr;rw[←groups_flatten x.rows] at hr;obtain⟨c,hc,hrc⟩:=List.mem_flatten.1 hr;have h1:=List.all_eq_true.1 ho c hc;unfold pageOk at h1;simp only[decide_eq_true_eq] at h1;exact(((fitN_all c).1 h1.2.2).2 r hrc).2
theorem rows_few_{x:Ss}(hG:GoodX x):Sorted x.rows∧x.rows.length≤5000:=by
 obtain⟨ps,hps,_⟩:=hG.fit;exact built_sorted hps
theorem commit_nil{dg:Nat}{M:Nat→Prop}{w:World}{sv lv:Value}{x:Ss}(h:Sto dg M w sv x)(hc:RC w lv []):Calls Tryz.prog 25 #[sv,lv] w fun e w'=>e= .returned (.int .u16 0)∧w=w':=by
 obtain⟨D,R,g,rv,rfl,h⟩:=h;obtain⟨A,c,rfl,hcc,hcm,_⟩:=hc;clear h;go_enter Tryz.func25,Tryz.ntmps25;go_wp2;go_ret;exact⟨rfl,rfl⟩
theorem commit_long{dg:Nat}{M:Nat→Prop}{w:World}{sv lv:Value}{x:Ss}{cs:List Chg}(h:Sto dg M w sv x)(hc:CO M w lv cs)(hne:cs≠ [])(hl:cs.any longC=true):Calls Tryz.prog 25 #[sv,lv] w fun e w'=>e= .returned (.int .u16 3)∧Below w.heap.size w w':=by
 obtain⟨D,R,g,rv,rfl,h⟩:=h;have HC:=qH hc;obtain⟨A,c,rfl,hcc,hcm,_⟩:=hc.rc;unfold maxLen at hcm;have hcl:(0:Int)<(cs.length:Int):=by have:=List.length_pos_iff.2 hne;omega
 have gZ:((cs.length:Int)==0)=false:=by rw[beq_eq_false_iff_ne];omega
 have nD:¬(cs.length:Int)=0:=by omega
 have H:=qH h;have HL:=qH (anyLong_any (.slice A cs.length c) cs w hc.rc);rw[hl] at HL;clear h hc;go_enter Tryz.func25,Tryz.ntmps25;go_wp2_with fail
 go_at_call 64;refine HL.out.mono ?_;rintro e w1⟨rfl,hb1⟩;have an:=qH hb1;clear hb1;go_wp2;go_ret;exact⟨rfl,an.out⟩
theorem commit_parts{dg:Nat}{M:Nat→Prop}{w:World}{sv lv:Value}{x:Ss}{cs:List Chg}(h:Sto dg M w sv x)(hG:GoodX x)(hc:CO M w lv cs)(hne:cs≠ [])(hl:cs.any longC=false)(hcb:(chgsB cs).length≤100000000)(hcs:cs.length≤100000)(hcv:∀r∈cs,r.2.1.length≤1000000000)(hp:(partsL (x.ep:Int) (x.fr:Int) cs).2=false∨jN x.n<(partsL (x.ep:Int) (x.fr:Int) cs).1.length):Calls Tryz.prog 25 #[sv,lv] w fun e w'=>e= .returned (.int .u16 21)∧Below w.heap.size w w':=by
 obtain⟨D,R,g,rv,rfl,h⟩:=h;have HC:=qH hc;obtain⟨A,c,rfl,hcc,hcm,_⟩:=hc.rc;unfold maxLen at hcm;have hcl:(0:Int)<(cs.length:Int):=by have:=List.length_pos_iff.2 hne;omega
 have gZ:((cs.length:Int)==0)=false:=by rw[beq_eq_false_iff_ne];omega
 have nD:¬(cs.length:Int)=0:=by omega
 have H:=qH h;have HL:=qH (anyLong_any (.slice A cs.length c) cs w hc.rc);rw[hl] at HL;obtain⟨⟨P1,P2⟩,bF⟩:∃PL,PL=partsL (x.ep:Int) (x.fr:Int) cs:=⟨_,rfl⟩
 obtain⟨J,hJ⟩:∃J,J=jN x.n:=⟨_,rfl⟩
 obtain⟨n,hn⟩:∃n,n=x.d.firm.length:=⟨_,rfl⟩
 have kB:64≤n:=by rw[hn];exact hG.n
 have di:n≤4096:=by rw[hn];exact hG.ok.n
 have uF:J≤n:=by rw[hJ,hn];exact Nat.le_trans (jN_le x.d.firm.length) (Nat.div_le_self _ _)
 have ah:x.us≤J:=by rw[hJ];exact hG.us
 have ay:x.fr≤J:=Nat.le_trans hG.fr ah;have fg:=hG.ep;have har:=hG.ar;have hlen:=fun X (hX:Below w.heap.size w X)=>len_any (h.dev.below hX)
 rw[←hn] at hlen;have al:=fun X=>layout_any (n:Int) (by omega) (by omega) X
 rw[layJ_nat,layA_nat,hn,←hJ,←hn] at al;have HLEN:=qH hlen;have bh:=qH al;have iX:=fun X (hX:Fr M w X)=>parts_any (x.ep:Int) (x.fr:Int) _ cs X (hc X hX) hcb (by omega) (fun r hr=>hcv r hr)
 rw[←bF] at iX;have qm:=qH iX;have hcells:=fun X (hX:Below w.heap.size w X)=>h.blk.below hX h.blk.lt
 have aW:=qH hcells;have cW:=qH bF;have HJ:=qH hJ;have ll:=qH hn;have HG:=qH hG;rw[←bF,←hJ] at hp;clear h hc hG bF hJ hn hlen al iX hcells hcb hcv;go_enter Tryz.func25,Tryz.ntmps25;go_wp2_with fail
 go_at_call 64;refine HL.out.mono ?_;rintro e w1⟨rfl,hb1⟩;have an:=qH hb1;clear hb1;have c0:=(aW.out _ an.out).cell 0;have c1:=(aW.out _ an.out).cell 1;have c2:=(aW.out _ an.out).cell 2;have c3:=(aW.out _ an.out).cell 3;have c4:=(aW.out _ an.out).cell 4;have c5:=(aW.out _ an.out).cell 5;unfold sc at c0 c1 c2 c3 c4 c5;simp at c0 c1 c2 c3 c4 c5;go_wp2_with (first|(go_at_call 38;refine(HLEN.out _ an.out).mono ?_;rintro e wx ⟨rfl,rfl⟩)|(go_at_call 29;refine(bh.out _).mono ?_;rintro e wx ⟨rfl,rfl⟩))
 refine wp_region_held_drew (S:=fun X=>Below w.heap.size w X) (by kernel_rfl) an.out.drew (fun hHeld=>?_);refine tkC 0 ?_;refine tkC 1 ?_;refine tkC 2 ?_;refine tkA 3 (v:=?_) ?_ ?_;rotate_left
 ·intro X hSw;have zb:=aW.out _ hSw;have z2:=zb.cell 2;have z5:=zb.cell 5;unfold sc at z2 z5;simp at z2 z5;go_simp;try (with_reducible rfl)
 try simp only[Act.put,zA,zB,zC]
 refine tkC 4 ?_;refine tkC 5 ?_;refine tkC 6 ?_;refine tkA 7 (v:=?_) ?_ ?_;rotate_left
 ·intro X hSw;have zb:=aW.out _ hSw;have z2:=zb.cell 2;have z5:=zb.cell 5;unfold sc at z2 z5;simp at z2 z5;go_simp;try (with_reducible rfl)
 try simp only[Act.put,zA,zB,zC]
 refine tkC 8 ?_;refine rdA (rs:= [9]) ?_;refine arC (fun K hK=>?_);go_simp;refine(qm.out _ (Fr.of_below hHeld)).mono ?_;rintro e w2⟨pv,rfl,hop,hb2⟩;obtain⟨Ap,cp,hpv,j8,i9⟩:=hop.shape;subst hpv;have b8:=qH hop;have ae:=qH (hHeld.trans (hb2.mono hHeld.size));have ig:=qH (show w.heap.size≤w1.drew.heap.size from hHeld.size);clear hop hb2;try (go_wp2_with fail)
 have ac:=ae.out;refine hK.out _ _ ?_ (fun _=>?_)
 ·exact ac
 clear hK K hHeld;have hHeld:=ac;clear ac;try simp only[Act.put,zA,zB,zC]
 refine tkC 10 ?_;refine tkC 11 ?_;refine tkC 12 ?_;refine tkC 13 ?_;refine tkC 14 ?_;refine wpAnyH_done (by kernel_rfl) ?_ _;clear hHeld
 cases P2 with
 |false=>
  go_wp2;go_ret;exact⟨rfl,ae.out⟩
 |true=>
  have hp':(J:Int)<(P1.length:Int):=by rcases hp with hp|hp;simp at hp;exact Int.ofNat_lt.2 hp
  go_wp2;go_ret;exact⟨rfl,ae.out⟩
theorem commit_fit{dg:Nat}{M:Nat→Prop}{w:World}{sv lv:Value}{x:Ss}{cs:List Chg}(h:Sto dg M w sv x)(hG:GoodX x)(hc:CO M w lv cs)(hne:cs≠ [])(hl:cs.any longC=false)(hcb:(chgsB cs).length≤100000000)(hcs:cs.length≤100000)(hcv:∀r∈cs,r.2.1.length≤1000000000)(hp:(partsL (x.ep:Int) (x.fr:Int) cs).2=true)(hp1:(partsL (x.ep:Int) (x.fr:Int) cs).1.length≤jN x.n)(hft:fitB x.n (applyL x.rows cs)=false):Calls Tryz.prog 25 #[sv,lv] w fun e w'=>e= .returned (.int .u16 21)∧Below w.heap.size w w':=by
 obtain⟨D,R,g,rv,rfl,h⟩:=h;have HC:=qH hc;obtain⟨A,c,rfl,hcc,hcm,_⟩:=hc.rc;unfold maxLen at hcm;have hcl:(0:Int)<(cs.length:Int):=by have:=List.length_pos_iff.2 hne;omega
 have gZ:((cs.length:Int)==0)=false:=by rw[beq_eq_false_iff_ne];omega
 have nD:¬(cs.length:Int)=0:=by omega
 have H:=qH h;have HL:=qH (anyLong_any (.slice A cs.length c) cs w hc.rc);rw[hl] at HL;obtain⟨⟨P1,P2⟩,bF⟩:∃PL,PL=partsL (x.ep:Int) (x.fr:Int) cs:=⟨_,rfl⟩
 obtain⟨J,hJ⟩:∃J,J=jN x.n:=⟨_,rfl⟩
 obtain⟨n,hn⟩:∃n,n=x.d.firm.length:=⟨_,rfl⟩
 have kB:64≤n:=by rw[hn];exact hG.n
 have di:n≤4096:=by rw[hn];exact hG.ok.n
 have uF:J≤n:=by rw[hJ,hn];exact Nat.le_trans (jN_le x.d.firm.length) (Nat.div_le_self _ _)
 have ah:x.us≤J:=by rw[hJ];exact hG.us
 have ay:x.fr≤J:=Nat.le_trans hG.fr ah;have fg:=hG.ep;have har:=hG.ar;have hlen:=fun X (hX:Below w.heap.size w X)=>len_any (h.dev.below hX)
 rw[←hn] at hlen;have al:=fun X=>layout_any (n:Int) (by omega) (by omega) X
 rw[layJ_nat,layA_nat,hn,←hJ,←hn] at al;have HLEN:=qH hlen;have bh:=qH al;have iX:=fun X (hX:Fr M w X)=>parts_any (x.ep:Int) (x.fr:Int) _ cs X (hc X hX) hcb (by omega) (fun r hr=>hcv r hr)
 rw[←bF] at iX;have qm:=qH iX;have hcells:=fun X (hX:Below w.heap.size w X)=>h.blk.below hX h.blk.lt
 have aW:=qH hcells;have cW:=qH bF;have HJ:=qH hJ;have ll:=qH hn;have HG:=qH hG;obtain⟨Ar,cr,ib,pO,pt⟩:=rr_shape h.rows.rr;subst ib;obtain⟨kD,kP⟩:∃r,r=applyL x.rows cs:=⟨_,rfl⟩
 have j4:=qH kP;obtain⟨D3,js⟩:∃b,b=fitB n (applyL x.rows cs):=⟨_,rfl⟩
 have fi:=qH js;rw[←bF] at hp;rw[←bF,←hJ] at hp1;simp only at hp hp1;subst hp;have gK:fitB n kD=false:=by rw[kP,hn];exact hft
 have ud:¬(J:Int)<(P1.length:Int):=by omega
 have cJ:=qH gK;clear h hc hG bF hJ hn hlen al iX hcells hcb kP js hft gK;go_enter Tryz.func25,Tryz.ntmps25;go_wp2_with fail
 go_at_call 64;refine HL.out.mono ?_;rintro e w1⟨rfl,hb1⟩;have an:=qH hb1;clear hb1;have c0:=(aW.out _ an.out).cell 0;have c1:=(aW.out _ an.out).cell 1;have c2:=(aW.out _ an.out).cell 2;have c3:=(aW.out _ an.out).cell 3;have c4:=(aW.out _ an.out).cell 4;have c5:=(aW.out _ an.out).cell 5;unfold sc at c0 c1 c2 c3 c4 c5;simp at c0 c1 c2 c3 c4 c5;go_wp2_with (first|(go_at_call 38;refine(HLEN.out _ an.out).mono ?_;rintro e wx ⟨rfl,rfl⟩)|(go_at_call 29;refine(bh.out _).mono ?_;rintro e wx ⟨rfl,rfl⟩))
 refine wp_region_held_drew (S:=fun X=>Below w.heap.size w X) (by kernel_rfl) an.out.drew (fun hHeld=>?_);refine tkC 0 ?_;refine tkC 1 ?_;refine tkC 2 ?_;refine tkA 3 (v:=?_) ?_ ?_;rotate_left
 ·intro X hSw;have zb:=aW.out _ hSw;have z2:=zb.cell 2;have z5:=zb.cell 5;unfold sc at z2 z5;simp at z2 z5;go_simp;try (with_reducible rfl)
 try simp only[Act.put,zA,zB,zC]
 refine tkC 4 ?_;refine tkC 5 ?_;refine tkC 6 ?_;refine tkA 7 (v:=?_) ?_ ?_;rotate_left
 ·intro X hSw;have zb:=aW.out _ hSw;have z2:=zb.cell 2;have z5:=zb.cell 5;unfold sc at z2 z5;simp at z2 z5;go_simp;try (with_reducible rfl)
 try simp only[Act.put,zA,zB,zC]
 refine tkC 8 ?_;refine rdA (rs:= [9]) ?_;refine arC (fun K hK=>?_);go_simp;refine(qm.out _ (Fr.of_below hHeld)).mono ?_;rintro e w2⟨pv,rfl,hop,hb2⟩;obtain⟨Ap,cp,hpv,j8,i9⟩:=hop.shape;subst hpv;have b8:=qH hop;have ae:=qH (hHeld.trans (hb2.mono hHeld.size));have ig:=qH (show w.heap.size≤w1.drew.heap.size from hHeld.size);clear hop hb2;try (go_wp2_with fail)
 have ac:=ae.out;refine hK.out _ _ ?_ (fun _=>?_)
 ·exact ac
 clear hK K hHeld;have hHeld:=ac;clear ac;try simp only[Act.put,zA,zB,zC]
 refine tkC 10 ?_;refine tkC 11 ?_;refine tkC 12 ?_;refine tkC 13 ?_;refine tkC 14 ?_;refine wpAnyH_done (by kernel_rfl) ?_ _;clear hHeld c0 c1 c2 c3 c4 c5;have d0:=(aW.out _ ae.out).cell 0;have d1:=(aW.out _ ae.out).cell 1;have d4:=(aW.out _ ae.out).cell 4;unfold sc at d0 d1 d4;simp at d0 d1 d4;have hap:=apply_any (.slice Ar x.rows.length cr) (.slice A cs.length c) x.rows cs w2 (H.out.rows.keep ae.out.size (fun k hr=>ae.out.block k (H.out.hR k hr).2.2)).rr (rows_few_ HG.out).1 (HC.out _ (Fr.of_below ae.out)) (by have:=(rows_few_ HG.out).2;omega) (fun r hr=>Nat.le_trans (rows_val HG.out r hr) (by decide)) (fun r hr=>Nat.le_trans (hcv r hr) (by decide));rw[←j4.out] at hap;have eA:=qH hap;clear hap;go_wp2_with fail
 go_at_call 50;refine eA.out.mono ?_;rintro e w3⟨qy,rfl,ct,hb3⟩;have ak:=qH (ae.out.trans (hb3.mono ae.out.size));have da:=qH ct;have py:=qH hb3;have qi:w2.heap.size≤w3.heap.size:=hb3.size;obtain⟨A3,c3,kI,mA,mZ⟩:=rr_shape ct.rr;subst kI;clear ct hb3 d0 d1 d4;have g0:=(aW.out _ ak.out).cell 0;have g4:=(aW.out _ ak.out).cell 4;unfold sc at g0 g4;simp at g0 g4;have j3:=qH (sfit_any (H.out.dev.below ak.out) _ _ da.out.rr);rw[←ll.out] at j3;go_wp2_with fail
 go_at_call 52;refine j3.out.mono ?_;rintro e w4⟨rfl,hb4⟩;have ai:=qH (ak.out.trans (hb4.mono ak.out.size));have eV:=qH hb4;clear hb4 g0 g4;have k4:=(aW.out _ ai.out).cell 4;have k0:=(aW.out _ ai.out).cell 0;unfold sc at k4 k0;simp at k4 k0;rw[cJ.out];go_wp2;go_ret;exact⟨rfl,ai.out⟩
theorem fit_ex{n:Nat}{r:List Rw}(h:fitB n r=true):∃ps,buildL r=some ps∧ps.length≤aN n:=by
 unfold fitB at h;split at h
 ·rename_i ps e
  exact⟨ps,e,of_decide_eq_true h⟩
 ·cases h
theorem chunks_flat{k:Nat}(hk:0<k)(b:List UInt8):∀m,b.length≤m*k→((List.range m).map fun i=>(b.drop (k*i)).take k).flatten=b
 |0,h=>by
  have:b= []:=List.eq_nil_of_length_eq_zero (by omega);subst this;rfl
 |m+1,h=>by
  by_cases hm:b.length≤m*k
  ·rw[List.range_succ,List.map_append,List.flatten_append,chunks_flat hk b m hm]
   have e:b.drop (k*m)= []:=List.drop_eq_nil_of_le (by rw[Nat.mul_comm];exact hm);simp[e]
  ·have ih:=chunks_flat hk (b.take (m*k)) m (by rw[List.length_take];omega)
   have e1:((List.range m).map fun i=>(b.drop (k*i)).take k)=(List.range m).map fun i=>((b.take (m*k)).drop (k*i)).take k:=by
    apply List.map_congr_left;intro i hi;have hi:=List.mem_range.1 hi;rw[List.drop_take,List.take_take,Nat.min_eq_left];have h2:(i+1)*k≤m*k:=Nat.mul_le_mul_right _ hi;rw[Nat.add_mul,Nat.one_mul,Nat.mul_comm] at h2;omega
   rw[List.range_succ,List.map_append,List.flatten_append,e1,ih];have e2:(b.drop (k*m)).take k=b.drop (k*m):=List.take_of_length_le (by rw[List.length_drop,Nat.mul_comm k m];rw[Nat.add_mul] at h;omega);simp only[List.map_cons,List.map_nil,List.flatten_cons,List.flatten_nil,List.append_nil];rw[e2,Nat.mul_comm k m,List.take_append_drop]
theorem chunk64_flat(b:List UInt8):(chunkL64 b).flatten=b:=by
 unfold chunkL64;exact chunks_flat (k:=64) (by omega) b (of64 b) (by unfold of64;omega)
theorem chunk256_pages{ps:List (List UInt8)}(h:∀p∈ps,p.length=256):chunkL256 ps.flatten=ps:=by
 have hl:=flat256 h;have ho:of256 ps.flatten=ps.length:=by unfold of256;rw[hl];omega
 unfold chunkL256;rw[ho];apply List.ext_getElem (by simp);intro i h1 h2;simp only[List.getElem_map,List.getElem_range];unfold pc256;apply List.ext_getElem?;intro j;have hp:=h ps[i] (List.getElem_mem h2);rw[List.getElem?_take];by_cases hj:j<256
 ·rw[if_pos hj,List.getElem?_drop,Nat.mul_comm 256 i]
  exact Go.Dv.flat_get h h2 hj
 ·rw[if_neg hj,List.getElem?_eq_none (by omega)]
theorem chunk64_len{ps:List (List UInt8)}(h:∀p∈ps,p.length=256):(chunkL64 ps.flatten).length=ps.length*4:=by
 unfold chunkL64 of64;rw[List.length_map,List.length_range,flat256 h];omega
theorem chunk64_all{ps:List (List UInt8)}(h:∀p∈ps,p.length=256):∀x∈chunkL64 ps.flatten,x.length=64:=by
 intro x hx;have hl:=flat256 h;unfold chunkL64 at hx;obtain⟨i,hi,rfl⟩:=List.mem_map.1 hx;have hi:=List.mem_range.1 hi;unfold of64 at hi;rw[pc64_length,hl];omega
theorem w4(ep:Nat)(h:ep<4294967296)(l:List UInt8):((wordL ep++l).getD 0 0).toNat*16777216+((wordL ep++l).getD 1 0).toNat*65536+((wordL ep++l).getD 2 0).toNat*256+((wordL ep++l).getD 3 0).toNat=ep:=by
 show(UInt8.ofNat (ep/16777216)).toNat*16777216+(UInt8.ofNat (ep/65536)).toNat*65536+(UInt8.ofNat (ep/256)).toNat*256+(UInt8.ofNat ep).toNat=ep;simp only[UInt8.toNat_ofNat'];omega
theorem head_bytes(ep ar pg:Nat):∃t,Str.headL ep ar pg= [82,83]++(wordL ep++([UInt8.ofNat ar,UInt8.ofNat (pg/256),UInt8.ofNat pg]++t)):=by
 refine⟨List.replicate 51 0++tailL (csum (Str.headP ep ar pg)),?_⟩;unfold Str.headL sealL Str.headP Str.headB;simp only[List.append_assoc]
theorem head_len(ep ar pg:Nat):(Str.headL ep ar pg).length=64:=by unfold Str.headL;rw[sealL_length,Str.headP_length]
theorem head_ep{ep:Nat}(h:ep<4294967296)(ar pg:Nat):Str.hEp (Str.headL ep ar pg)=ep:=by
 obtain⟨t,e⟩:=head_bytes ep ar pg;rw[e];exact w4 ep h ([UInt8.ofNat ar,UInt8.ofNat (pg/256),UInt8.ofNat pg]++t)
theorem head_ar{ar:Nat}(h:ar<256)(ep pg:Nat):Str.hAr (Str.headL ep ar pg)=ar:=by
 obtain⟨t,e⟩:=head_bytes ep ar pg;rw[e];show(UInt8.ofNat ar).toNat=ar;rw[UInt8.toNat_ofNat'];omega
theorem head_pg{pg:Nat}(h:pg<65536)(ep ar:Nat):Str.hPg (Str.headL ep ar pg)=pg:=by
 obtain⟨t,e⟩:=head_bytes ep ar pg;rw[e];show(UInt8.ofNat (pg/256)).toNat*256+(UInt8.ofNat pg).toNat=pg;simp only[UInt8.toNat_ofNat'];omega
theorem head_ok{ep ar pg most:Nat}(h1:1≤ep)(h2:ep≤1073741824)(h3:ar≤1)(h4:1≤pg)(h5:pg≤most)(h6:most<65536):Str.hOk (Str.headL ep ar pg) most=true:=by
 unfold Str.hOk;rw[head_ep (by omega),head_ar (by omega),head_pg (by omega),if_pos ⟨h1,h2,by omega,h4,h5⟩];exact beq_self_eq_true _
def wE(b:List UInt8):Nat:=(b.getD 0 0).toNat*16777216+(b.getD 1 0).toNat*65536+(b.getD 2 0).toNat*256+(b.getD 3 0).toNat
theorem part_wE{ep:Nat}(h:ep<4294967296)(n i of:Nat)(p:List UInt8):wE (partL ep n i of p)=ep:=by
 have e:∃t,partL ep n i of p=wordL ep++t:=by
  refine⟨wordL n++([UInt8.ofNat i,UInt8.ofNat of,UInt8.ofNat p.length]++(p++(List.replicate (60-(Go.Proofs.YtmbkaedhllfoeaaGreat.headL ep n i of p).length) 0++tailL (csum (pad60 (Go.Proofs.YtmbkaedhllfoeaaGreat.headL ep n i of p)))))),?_⟩;unfold partL sealL;rw[show pad60 (Go.Proofs.YtmbkaedhllfoeaaGreat.headL ep n i of p)=Go.Proofs.YtmbkaedhllfoeaaGreat.headL ep n i of p++List.replicate (60-(Go.Proofs.YtmbkaedhllfoeaaGreat.headL ep n i of p).length) 0 from rfl];unfold Go.Proofs.YtmbkaedhllfoeaaGreat.headL;simp only[List.append_assoc]
 obtain⟨t,e⟩:=e;rw[e];exact w4 ep h t
theorem bad_wE{ep:Nat}{b:List UInt8}(h:ep≤1073741824)(hb:wE b≠ep):Bad ep b:=fun n j of g=>by
 rw[g.eq,part_wE (by omega)] at hb;exact hb rfl
theorem parts_wE{ep k:Nat}(h:ep≤1073741824){cs:List Chg}{s:List UInt8}(hs:s∈(partsL ep k cs).1):wE s=ep∧s.length=64:=by
 unfold partsL at hs;split at hs
 ·cases hs
 ·split at hs
  ·cases hs
  ·simp only[secL,Int.toNat_natCast] at hs
   obtain⟨x,_,rfl⟩:=List.mem_map.1 hs;exact⟨part_wE (by omega) _ _ _ _,partL_length (by have:=pcL_length (chgsL cs) x;omega)⟩
theorem readF_pre{ep:Nat}:∀{fs:List (List Chg)} {k f:Nat} (X:List (List UInt8)),MadeF ep k fs→(readF (fs.length+f) ep (secsF ep k fs++X) k).1=fs++(readF f ep X (k+fs.length)).1
 | [],k,f,X,_=>by simp[secsF]
 |c::fs,k,f,X,h=>by
  obtain⟨h1,h2,h3⟩:=h;rw[secsF,List.append_assoc,List.length_cons,show fs.length+1+f=(fs.length+f)+1 by omega,readF_made h1 h2,show k+(fs.length+1)=(k+1)+fs.length by omega];show c::(readF (fs.length+f) ep (secsF ep (k+1) fs++X) (k+1)).1=_;rw[readF_pre X h3,List.cons_append]
theorem readS_pre{ep:Nat}{fs:List (List Chg)}(h:MadeF ep 0 fs)(X:List (List UInt8)):∃f,X.length+1≤f∧(readS ep (secsF ep 0 fs++X)).1=fs++(readF f ep X fs.length).1:=by
 have hl:=secsF_len h;refine⟨(secsF ep 0 fs++X).length+1-fs.length,by rw[List.length_append];omega,?_⟩;unfold readS;have:=readF_pre (f:=(secsF ep 0 fs++X).length+1-fs.length) X h;rw[show fs.length+((secsF ep 0 fs++X).length+1-fs.length)=(secsF ep 0 fs++X).length+1 by rw[List.length_append];omega,Nat.zero_add] at this;exact this
theorem bad_none{ep:Nat}(k:Nat){X:List (List UInt8)}(h:∀x∈X,Bad ep x):(frameS ep k X).2=0:=by
 refine Classical.byContradiction fun hc=>?_
 obtain⟨l,cnt,he⟩:∃l cnt,frameS ep k X=(l,cnt):=⟨_,_,rfl⟩
 rw[he] at hc;obtain⟨g,_⟩:=frame_good he hc;have hlo:=g.lo;have hle:=g.le;have hg:=g.good 0 (by omega) (by omega);exact h _ (List.getElem_mem _) _ _ _ hg
theorem torn{ep k:Nat}{cs:List Chg}(h:(partsL ep k cs).2=true){X:List (List UInt8)}(hl:(partsL ep k cs).1.length≤X.length)
  (hX:∀i (hi:i<X.length),(∃hp:i<(partsL ep k cs).1.length,X[i]=(partsL ep k cs).1[i])∨Bad ep X[i]):(frameS ep k X).2=0∨X.take (partsL ep k cs).1.length=(partsL ep k cs).1:=by
 by_cases hc:(frameS ep k X).2=0
 ·exact .inl hc
 ·right
  obtain⟨l,cnt,he⟩:∃l cnt,frameS ep k X=(l,cnt):=⟨_,_,rfl⟩
  rw[he] at hc;obtain⟨g,_⟩:=frame_good he hc;have hlo:=g.lo;have hle:=g.le;have htold:=g.told;obtain⟨h1,h2,h3,h4,h5,h6⟩:=parts_of h;have Je:=parts_count h;have key:∀i (hi:i<X.length),i<cnt→∃hp:i<(partsL ep k cs).1.length,X[i]=(partsL ep k cs).1[i]:=fun i hi hlt=>(hX i hi).resolve_right (fun hb=>hb _ _ _ (g.good i hi hlt))
  obtain⟨hp0,e0⟩:=key 0 (by omega) (by omega);have ht:toldL X=ofL (chgsL cs):=by
   obtain⟨t,ht⟩:=secL_zero (ep:=(ep:Int).toNat) (n:=(k:Int).toNat) (b:=chgsL cs) (chgsL_pieces cs);have e1:(partsL ep k cs).1[0]=partL (ep:Int).toNat (k:Int).toNat 0 (ofL (chgsL cs)) (pcL (chgsL cs) 0):=by
    have:(partsL ep k cs).1[0]? =some (partL (ep:Int).toNat (k:Int).toNat 0 (ofL (chgsL cs)) (pcL (chgsL cs) 0)):=by rw[h1,ht];rfl
    rw[List.getElem?_eq_getElem hp0] at this;injection this
   have hpl:=pcL_length (chgsL cs) 0;have IM:X=X[0]::X.drop 1:=by
    have:=List.drop_eq_getElem_cons (l:=X) (i:=0) (by omega);rw[List.drop_zero] at this;exact this
   rw[IM,e0,e1];show(if (partL (ep:Int).toNat (k:Int).toNat 0 (ofL (chgsL cs)) (pcL (chgsL cs) 0)).length=64 then b9 _ else 0)=_;rw[if_pos (partL_length (by omega)),(part_bytes (by omega) (by omega)).1]
  apply List.ext_getElem (by rw[List.length_take];omega);intro i a1 a2;rw[List.getElem_take];obtain⟨_,e⟩:=key i (by omega) (by omega);exact e
def jsecs(F:List (List UInt8)):List (List UInt8):=(List.range (jN F.length)).map fun j=>sec F (2+j)
structure HdA (F:List (List UInt8)) (ep ar:Nat) (l0:List Rw) (ps:List (List UInt8)):Prop where
 n:64≤F.length
 m:F.length≤4096
 f:∀x∈F,x.length=64
 e1:1≤ep
 e2:ep≤1073741824
 arl:ar≤1
 b:buildL l0=some ps
 p:ps.length≤aN F.length
 hd:sec F (ep%2)=Str.headL ep ar ps.length
 ot:Str.hOk (sec F (1-ep%2)) (aN F.length)=true→Str.hEp (sec F (1-ep%2))<ep
 pg:∀j,j<ps.length*4→sec F (firstN F.length ar+j)=sec (chunkL64 ps.flatten) j
 jr:∀j,j<jN F.length→wE (sec F (2+j))≤ep
structure JrA (F:List (List UInt8)) (ep:Nat) (fs:List (List Chg)):Prop where
 made:MadeF ep 0 fs
 us:(secsF ep 0 fs).length≤jN F.length
 at_:∀j,j<(secsF ep 0 fs).length→sec F (2+j)=sec (secsF ep 0 fs) j
 free:∀j,(secsF ep 0 fs).length≤j→j<jN F.length→wE (sec F (2+j))<ep
theorem HdA.keep{F F':List (List UInt8)}{ep ar:Nat}{l0:List Rw}{ps:List (List UInt8)}(h:HdA F ep ar l0 ps)(hn:F'.length=F.length)(hf:∀x∈F',x.length=64)(h0:∀i,i<2→F'[i]? =F[i]?)
  (hp:∀j,j<ps.length*4→F'[firstN F.length ar+j]? =F[firstN F.length ar+j]?) (hj:∀j,j<jN F.length→wE (sec F' (2+j))≤ep):HdA F' ep ar l0 ps:=by
 refine⟨by rw[hn];exact h.n,by rw[hn];exact h.m,hf,h.e1,h.e2,h.arl,h.b,by rw[hn];exact h.p,?_,?_,?_,by rw[hn];exact hj⟩
 ·rw[sec_get (h0 (ep%2) (by omega))];exact h.hd
 ·rw[hn,sec_get (h0 (1-ep%2) (by omega))];exact h.ot
 ·intro j hlt
  rw[hn,sec_get (hp j hlt)];exact h.pg j hlt
theorem jsecs_frames{F:List (List UInt8)}{ep:Nat}{fs:List (List Chg)}(ah:(secsF ep 0 fs).length≤jN F.length)(hat:∀j,j<(secsF ep 0 fs).length→sec F (2+j)=sec (secsF ep 0 fs) j):
  jsecs F=secsF ep 0 fs++(List.range (jN F.length-(secsF ep 0 fs).length)).map fun j=>sec F (2+(secsF ep 0 fs).length+j):=by
 apply List.ext_getElem
 ·unfold jsecs
  simp only[List.length_map,List.length_range,List.length_append];omega
 ·intro i h1 h2
  have ej:(jsecs F)[i]=sec F (2+i):=by
   have:(jsecs F)[i]? =some (sec F (2+i)):=by
    have h1':i<jN F.length:=by simpa [jsecs] using h1
    unfold jsecs;rw[List.getElem?_map,List.getElem?_range h1'];rfl
   rw[List.getElem?_eq_getElem h1] at this;injection this
  rw[ej];by_cases hi:i<(secsF ep 0 fs).length
  ·rw[List.getElem_append_left hi,hat i hi]
   exact sec_some (List.getElem?_eq_getElem hi)
  ·rw[List.getElem_append_right (by omega)]
   simp only[List.getElem_map,List.getElem_range]
   congr 1
   omega
def rowsOf(F:List (List UInt8))(ep:Nat)(l0:List Rw):List Rw:=applyL l0 (readS (ep:Int) (jsecs F)).1.flatten
theorem JrA.rows{F:List (List UInt8)}{ep:Nat}{fs:List (List Chg)}(h:JrA F ep fs)(fg:ep≤1073741824)(l0:List Rw):rowsOf F ep l0=applyL l0 fs.flatten:=by
 unfold rowsOf;rw[jsecs_frames h.us h.at_];obtain⟨f,hf,e⟩:=readS_pre h.made ((List.range (jN F.length-(secsF ep 0 fs).length)).map fun j=>sec F (2+(secsF ep 0 fs).length+j));rw[e,readF_stop (bad_none _ (fun x hx=>?_)),List.append_nil];obtain⟨j,hj,rfl⟩:=List.mem_map.1 hx;have hj:=List.mem_range.1 hj;refine bad_wE fg ?_;have:=h.free ((secsF ep 0 fs).length+j) (by omega) (by omega);rw[show 2+((secsF ep 0 fs).length+j)=2+(secsF ep 0 fs).length+j by omega] at this;omega
theorem applyL_snoc2(l0:List Rw)(fs:List (List Chg))(cs:List Chg):applyL l0 (fs++ [cs]).flatten=applyL (applyL l0 fs.flatten) cs:=by
 rw[List.flatten_append,applyL_append];simp
def Rcv(B:Nat)(F:List (List UInt8))(r:List Rw):Prop:=∃ep ar l0 ps,HdA F ep ar l0 ps∧ep≤B∧rowsOf F ep l0=r∧fitB F.length r=true
theorem Rcv.more{B B':Nat}{F:List (List UInt8)}{r:List Rw}(h:Rcv B F r)(hb:B≤B'):Rcv B' F r:=by
 obtain⟨ep,ar,l0,ps,h1,h2,h3⟩:=h;exact⟨ep,ar,l0,ps,h1,by omega,h3⟩
theorem rowsOf_eq{F F':List (List UInt8)}{ep:Nat}{l0:List Rw}(hn:F'.length=F.length)(hj:∀j,j<jN F.length→F'[2+j]? =F[2+j]?):rowsOf F' ep l0=rowsOf F ep l0:=by
 have e:jsecs F'=jsecs F:=by
  unfold jsecs;rw[hn];apply List.map_congr_left;intro j hj';exact sec_get (hj j (List.mem_range.1 hj'))
 unfold rowsOf;rw[e]
abbrev krash(d:Sim)(K:List Bool):List (List UInt8):=kept d.firm d.loose K d.loose.length
theorem firstN_ge(n a:Nat):2+jN n≤firstN n a:=by unfold firstN;omega
theorem firstN_apart{n a b:Nat}(ha:a≤1)(hb:b≤1)(hne:a≠b){i j:Nat}(hi:i<aN n*4)(hj:j<aN n*4):firstN n a+i≠firstN n b+j:=by
 unfold firstN;rcases(show a=0∧b=1∨a=1∧b=0 by omega) with ⟨rfl,rfl⟩|⟨rfl,rfl⟩<;>omega
section
variable {s:Sim} {ep ar:Nat} {l0 r:List Rw} {lC ps:List (List UInt8)}
theorem lay_can(hl:s.loose= [])(hH:HdA s.firm ep ar l0 lC)(hr:rowsOf s.firm ep l0=r)(hft:fitB s.firm.length r=true)(hb:buildL r=some ps)(hp:ps.length≤aN s.firm.length)(he:ep<1073741824):
  ((layS s (ep+1) (1-ar) ps).goes=true→(layS s (ep+1) (1-ar) ps).loose= []∧HdA (layS s (ep+1) (1-ar) ps).firm (ep+1) (1-ar) r ps∧JrA (layS s (ep+1) (1-ar) ps).firm (ep+1) [])∧
  ∀K,Rcv (ep+1) (krash (layS s (ep+1) (1-ar) ps) K) r:=by
 have hn:=hH.n;have har:=hH.arl;have bj:=built_256 hb;have hne:=built_ne hb;have Gx:0<ps.length:=List.length_pos_iff.2 hne;have hcl:=chunk64_len bj;have oC:=chunk64_all bj;have uf:=firstN_le (k:=ps.length) hn (show 1-ar≤1 by omega) hp;have hA:=aN_le s.firm.length;obtain⟨j,hj,w1,w2,w3⟩:=writeL_kept (s:=s) (a:=firstN s.firm.length (1-ar)) (ps:=chunkL64 ps.flatten) hl oC (by rw[hcl];exact uf);have wf:=writeL_firm s (firstN s.firm.length (1-ar)) (chunkL64 ps.flatten) (chunkL64 ps.flatten).length;have Ez:=fun hg=>writeL_flush (s:=s) (a:=firstN s.firm.length (1-ar)) (ps:=chunkL64 ps.flatten) hl oC (by rw[hcl];exact uf) hg
 have hge:=firstN_ge s.firm.length (1-ar);unfold layS;generalize hS1:writeL s (firstN s.firm.length (1-ar)) (chunkL64 ps.flatten) (chunkL64 ps.flatten).length=s1 at *
 --what agrees with what was firm,but in the other area
 have jI:∀F':List (List UInt8),F'.length=s.firm.length→(∀x∈F',x.length=64)→(∀i,¬(firstN s.firm.length (1-ar)≤i∧i<firstN s.firm.length (1-ar)+ps.length*4)→F'[i]? =s.firm[i]?)→HdA F' ep ar l0 lC∧rowsOf F' ep l0=r:=by
  intro F' e1 e2 e3;refine⟨hH.keep e1 e2 (fun i hi=>e3 i (by omega)) (fun i hi=>e3 _ ?_) (fun i hi=>?_),?_⟩
  ·have:=hH.p
   intro hc;have:=firstN_apart (n:=s.firm.length) har (show 1-ar≤1 by omega) (by omega) (i:=i) (j:=firstN s.firm.length ar+i-firstN s.firm.length (1-ar)) (by omega) (by omega);omega
  ·rw[sec_get (e3 (2+i) (by omega))]
   exact hH.jr i hi
  ·rw[rowsOf_eq e1 (fun i hi=>e3 (2+i) (by omega)),hr]
 have hrc:∀F':List (List UInt8),F'.length=s.firm.length→(∀x∈F',x.length=64)→(∀i,¬(firstN s.firm.length (1-ar)≤i∧i<firstN s.firm.length (1-ar)+ps.length*4)→F'[i]? =s.firm[i]?)→Rcv (ep+1) F' r:=by
  intro F' e1 e2 e3;obtain⟨a1,a2⟩:=jI F' e1 e2 e3;exact⟨ep,ar,l0,lC,a1,by omega,a2,by rw[e1];exact hft⟩
 by_cases hg1:s1.goes=true
 ·obtain⟨q1,q2⟩:=Ez hg1
  have ql:s1.flush.firm.length=s.firm.length:=by rw[flush_firm,wf]
  have Aw:∀x∈s1.flush.firm,x.length=64:=by
   intro x hx;obtain⟨i,hi⟩:=List.getElem?_of_mem hx;rw[q2 i] at hi;split at hi
   ·rename_i hc
    injection hi with hi;rw[←hi];exact sec_len oC (by omega)
   ·exact hH.f x (List.mem_of_getElem? hi)
  have qo:∀i,¬(firstN s.firm.length (1-ar)≤i∧i<firstN s.firm.length (1-ar)+ps.length*4)→s1.flush.firm[i]? =s.firm[i]? :=by
   intro i hi;rw[q2 i,if_neg (by rw[hcl];exact hi)]
  obtain⟨k1,k2⟩:=jI _ ql Aw qo;by_cases hg2:s1.flush.goes=true
  ·have xK:(ep+1)%2<s1.flush.firm.length:=by omega
   rw[write_live xK (Nat.le_of_eq (head_len _ _ _)) hg2];have hpl:(s1.flush.put ((ep+1)%2) (Str.headL (ep+1) (1-ar) ps.length)).loose= [((ep+1)%2,Str.headL (ep+1) (1-ar) ps.length)]:=by
    show s1.flush.loose++ [_]=_;rw[q1,pad_same (head_len _ _ _)];rfl
   have dW:(s1.flush.put ((ep+1)%2) (Str.headL (ep+1) (1-ar) ps.length)).firm=s1.flush.firm:=rfl;generalize s1.flush.put ((ep+1)%2) (Str.headL (ep+1) (1-ar) ps.length)=s3 at *;have hone:∀K,kept s3.firm s3.loose K s3.loose.length=if K.getD 0 false=true then s1.flush.firm.set ((ep+1)%2) (Str.headL (ep+1) (1-ar) ps.length) else s1.flush.firm:=by
    intro K;rw[hpl,dW];rfl
   --the new laying
   have hnew:HdA (s1.flush.firm.set ((ep+1)%2) (Str.headL (ep+1) (1-ar) ps.length)) (ep+1) (1-ar) r ps∧JrA (s1.flush.firm.set ((ep+1)%2) (Str.headL (ep+1) (1-ar) ps.length)) (ep+1) []:=by
    have hsl:(s1.flush.firm.set ((ep+1)%2) (Str.headL (ep+1) (1-ar) ps.length)).length=s.firm.length:=by rw[List.length_set,ql]
    have hoth:∀i,i≠(ep+1)%2→sec (s1.flush.firm.set ((ep+1)%2) (Str.headL (ep+1) (1-ar) ps.length)) i=sec s1.flush.firm i:=fun i hi=>sec_get (by rw[List.getElem?_set,if_neg (fun h=>hi h.symm)])
    have tX:∀i,i<jN s.firm.length→wE (sec (s1.flush.firm.set ((ep+1)%2) (Str.headL (ep+1) (1-ar) ps.length)) (2+i))≤ep:=by
     intro i hi;rw[hoth _ (by omega)];have:=k1.jr i (by rw[ql];exact hi);exact this
    refine⟨⟨by rw[hsl];exact hn,by rw[hsl];exact hH.m,fun x hx=>?_,by omega,by omega,by omega,hb,by rw[hsl];exact hp,?_,?_,?_,?_⟩,⟨trivial,Nat.zero_le _,fun j hj=>absurd hj (Nat.not_lt_zero _),?_⟩⟩
    ·rcases List.mem_or_eq_of_mem_set hx with hx|rfl
     ·exact Aw x hx
     ·exact head_len _ _ _
    ·exact sec_some (by rw[List.getElem?_set,if_pos rfl,if_pos xK])
    ·rw[hsl,hoth _ (by omega),show 1-(ep+1)%2=ep%2 by omega,k1.hd]
     intro _;rw[head_ep (by have:=hH.e2;omega)];omega
    ·intro i hi
     rw[hsl,hoth _ (by omega)];refine sec_some ?_;rw[q2,if_pos ⟨by omega,by rw[hcl];omega⟩,Nat.add_sub_cancel_left]
    ·intro i hi
     rw[hsl] at hi;have:=tX i hi;omega
    ·intro i _ hi
     rw[hsl] at hi;have:=tX i hi;omega
   have rz:Rcv (ep+1) (s1.flush.firm.set ((ep+1)%2) (Str.headL (ep+1) (1-ar) ps.length)) r:=by
    refine⟨ep+1,1-ar,r,ps,hnew.1,Nat.le_refl _,?_,by rw[List.length_set,ql];exact hft⟩;rw[hnew.2.rows (by omega)];rfl
   by_cases hg3:s3.goes=true
   ·obtain⟨f1,f2⟩:=flush_live hg3
    have f3:s3.flush.firm=s1.flush.firm.set ((ep+1)%2) (Str.headL (ep+1) (1-ar) ps.length):=by
     rw[f1,hone,if_pos (by rw[hpl];rfl)]
    refine⟨fun _=>⟨f2,by rw[f3];exact hnew.1,by rw[f3];exact hnew.2⟩,fun K=>?_⟩;show Rcv _ (kept s3.flush.firm s3.flush.loose K s3.flush.loose.length) r;rw[f2,f3];exact rz
   ·have hg3':s3.goes=false:=by simpa using hg3
    rw[flush_dead hg3'];refine⟨fun h=>(by rw[hg3'] at h;cases h),fun K=>?_⟩;show Rcv _ (kept s3.firm s3.loose K s3.loose.length) r;rw[hone];split
    ·exact rz
    ·exact hrc _ ql Aw qo
  ·have t5:s1.flush.goes=false:=by simpa using hg2
   rw[write_dead t5,flush_dead t5];refine⟨fun h=>(by rw[t5] at h;cases h),fun K=>?_⟩;show Rcv _ (kept s1.flush.firm s1.flush.loose K s1.flush.loose.length) r;rw[q1];exact hrc _ ql Aw qo
 ·have hg1':s1.goes=false:=by simpa using hg1
  rw[flush_dead hg1',write_dead hg1',flush_dead hg1'];refine⟨fun h=>(by rw[hg1'] at h;cases h),fun K=>?_⟩;show Rcv _ (kept s1.firm s1.loose K s1.loose.length) r;rw[wf,w2];refine hrc _ (kept_length _ _ _ _) (fun x hx=>?_) (fun i hi=>?_)
  ·obtain⟨i,hi⟩:=List.getElem?_of_mem hx
   rw[w3] at hi;split at hi
   ·injection hi with hi
    rw[←hi];exact sec_len oC (by omega)
   ·exact hH.f x (List.mem_of_getElem? hi)
  ·rw[w3,if_neg (by omega)]
end
theorem MadeF_snoc{ep:Nat}{c:List Chg}:∀{fs:List (List Chg)} {k:Nat},MadeF ep k fs→(partsL ep ((k+fs.length:Nat):Int) c).2=true→readChgs (chgsL c)=(c,0)→MadeF ep k (fs++ [c])
 | [],k,_,h1,h2=>⟨by simpa using h1,h2,trivial⟩
 |d::fs,k,h,h1,h2=>⟨h.1,h.2.1,MadeF_snoc h.2.2 (by rw[List.length_cons] at h1;rw[show k+1+fs.length=k+(fs.length+1) by omega];exact h1) h2⟩
theorem ext_sec{A B:List (List UInt8)}(hl:A.length=B.length)(h:∀i,i<A.length→sec A i=sec B i):A=B:=by
 apply List.ext_getElem?;intro i;by_cases hi:i<A.length
 ·rw[sec_of hi,sec_of (by omega),h i hi]
 ·rw[List.getElem?_eq_none (by omega),List.getElem?_eq_none (by omega)]
theorem sec_app_left{A B:List (List UInt8)}{i:Nat}(h:i<A.length):sec (A++B) i=sec A i:=sec_get (List.getElem?_append_left h)
theorem sec_app_right{A B:List (List UInt8)}{i:Nat}(h:A.length≤i):sec (A++B) i=sec B (i-A.length):=by
 unfold sec;rw[List.getD_eq_getElem?_getD,List.getD_eq_getElem?_getD,List.getElem?_append_right h]
section
variable {s:Sim} {ep ar:Nat} {l0:List Rw} {lC:List (List UInt8)} {fs:List (List Chg)} {cs:List Chg}
theorem put_can(hl:s.loose= [])(hH:HdA s.firm ep ar l0 lC)(hJ:JrA s.firm ep fs)(hp:(partsL ep fs.length cs).2=true)(hr:readChgs (chgsL cs)=(cs,0))
  (hroom:(secsF ep 0 fs).length+(partsL ep fs.length cs).1.length≤jN s.firm.length) (h1:fitB s.firm.length (applyL l0 fs.flatten)=true) (h2:fitB s.firm.length (applyL l0 (fs++ [cs]).flatten)=true):
  ((writeL s (2+(secsF ep 0 fs).length) (partsL ep fs.length cs).1 (partsL ep fs.length cs).1.length).flush.goes=true→
   (writeL s (2+(secsF ep 0 fs).length) (partsL ep fs.length cs).1 (partsL ep fs.length cs).1.length).flush.loose= []∧
   HdA (writeL s (2+(secsF ep 0 fs).length) (partsL ep fs.length cs).1 (partsL ep fs.length cs).1.length).flush.firm ep ar l0 lC∧
   JrA (writeL s (2+(secsF ep 0 fs).length) (partsL ep fs.length cs).1 (partsL ep fs.length cs).1.length).flush.firm ep (fs++ [cs]))∧
  ∀K,Rcv ep (krash (writeL s (2+(secsF ep 0 fs).length) (partsL ep fs.length cs).1 (partsL ep fs.length cs).1.length).flush K) (applyL l0 fs.flatten)∨
   Rcv ep (krash (writeL s (2+(secsF ep 0 fs).length) (partsL ep fs.length cs).1 (partsL ep fs.length cs).1.length).flush K) (applyL l0 (fs++ [cs]).flatten):=by
 have hn:=hH.n;have gl:=hH.e2;have hA:=aN_le s.firm.length;have Lk:jN s.firm.length+2≤s.firm.length:=by have:=aN_pos hn;omega
 obtain⟨P,hP⟩:∃P,P=(partsL ep fs.length cs).1:=⟨_,rfl⟩
 obtain⟨us,ah⟩:∃us,us=(secsF ep 0 fs).length:=⟨_,rfl⟩
 have AE:∀x∈P,wE x=ep∧x.length=64:=fun x hx=>parts_wE gl (by rw[←hP];exact hx)
 rw[←hP,←ah] at hroom⊢;obtain⟨j,hj,w1,w2,w3⟩:=writeL_kept (s:=s) (a:=2+us) (ps:=P) hl (fun x hx=>(AE x hx).2) (by omega);have wf:=writeL_firm s (2+us) P P.length;have Ez:=fun hg=>writeL_flush (s:=s) (a:=2+us) (ps:=P) hl (fun x hx=>(AE x hx).2) (by omega) hg
 generalize hS1:writeL s (2+us) P P.length=s1 at *
 --what agrees with what was firm but in the frame's sectors
 have jI:∀F':List (List UInt8),F'.length=s.firm.length→(∀i,F'[i]? =s.firm[i]? ∨(2+us≤i∧i<2+us+P.length∧F'[i]? =some (sec P (i-(2+us)))))→HdA F' ep ar l0 lC:=by
  intro F' e1 e3;have h64:∀x∈F',x.length=64:=by
   intro x hx;obtain⟨i,hi⟩:=List.getElem?_of_mem hx;rcases e3 i with h|⟨a1,a2,a3⟩
   ·rw[h] at hi;exact hH.f x (List.mem_of_getElem? hi)
   ·rw[a3] at hi
    injection hi with hi;rw[←hi];exact(AE _ (List.mem_of_getElem? (sec_of (F:=P) (by omega)))).2
  refine hH.keep e1 h64 (fun i hi=>(e3 i).resolve_right (fun h=>by omega)) (fun i hi=>(e3 _).resolve_right (fun h=>by have:=firstN_ge s.firm.length ar;omega)) (fun i hi=>?_);rcases e3 (2+i) with h|⟨a1,a2,a3⟩
  ·rw[sec_get h];exact hH.jr i hi
  ·rw[sec_some a3]
   exact Nat.le_of_eq (AE _ (List.mem_of_getElem? (sec_of (F:=P) (by omega)))).1
 --the rows found there
 have hrow:∀F':List (List UInt8),F'.length=s.firm.length→(∀i,F'[i]? =s.firm[i]? ∨(2+us≤i∧i<2+us+P.length∧F'[i]? =some (sec P (i-(2+us)))))→
   Rcv ep F' (applyL l0 fs.flatten)∨Rcv ep F' (applyL l0 (fs++ [cs]).flatten):=by
  intro F' e1 e3;have GP:=jI F' e1 e3;have hat:∀i,i<us→sec F' (2+i)=sec (secsF ep 0 fs) i:=fun i hi=>by
   rw[sec_get ((e3 (2+i)).resolve_right (fun h=>by omega))];exact hJ.at_ i (by omega)
  have hjs:=jsecs_frames (F:=F') (ep:=ep) (fs:=fs) (by rw[e1];exact hJ.us) (fun i hi=>hat i (by omega));rw[e1,←ah] at hjs;generalize hX:((List.range (jN s.firm.length-us)).map fun j=>sec F' (2+us+j))=X at hjs;have Li:X.length=jN s.firm.length-us:=by rw[←hX];simp
  have GS:∀i (hi:i<X.length),X[i]=sec F' (2+us+i):=by
   intro i hi;have:X[i]? =some (sec F' (2+us+i)):=by
    rw[←hX,List.getElem?_map,List.getElem?_range (by omega)];rfl
   rw[List.getElem?_eq_getElem hi] at this;injection this
  have FW:∀i (hi:i<X.length),(∃hp:i<P.length,X[i]=P[i])∨Bad ep X[i]:=by
   intro i hi;rcases e3 (2+us+i) with h|⟨a1,a2,a3⟩
   ·right
    refine bad_wE gl ?_;rw[GS i hi,sec_get h];have:=hJ.free (us+i) (by omega) (by omega);rw[show 2+(us+i)=2+us+i by omega] at this;omega
   ·left
    refine⟨by omega,?_⟩;rw[GS i hi,sec_some a3,show 2+us+i-(2+us)=i by omega];exact sec_some (List.getElem?_eq_getElem (by omega))
  obtain⟨f,hf,e⟩:=readS_pre hJ.made X;have ht:=torn (X:=X) (k:=fs.length) hp (by rw[←hP];omega) (by rw[←hP];exact FW);rw[←hP] at ht;rcases ht with h0|hw
  ·left
   refine⟨ep,ar,l0,lC,GP,Nat.le_refl _,?_,by rw[e1];exact h1⟩;unfold rowsOf;rw[hjs,e,readF_stop h0,List.append_nil]
  ·right
   refine⟨ep,ar,l0,lC,GP,Nat.le_refl _,?_,by rw[e1];exact h2⟩;unfold rowsOf;have I1:X=P++X.drop P.length:=by
    have:=List.take_append_drop P.length X;rw[hw] at this;exact this.symm
   have KS:0<P.length:=by rw[hP,parts_count hp];exact chgsL_pieces cs
   have Lm:P.length≤X.length:=by omega
   obtain⟨f,rfl⟩:∃g,f=g+1:=⟨f-1,by omega⟩
   have rB:=readF_made (f:=f) (ep:=(ep:Int)) (k:=fs.length) hp hr (X.drop P.length);rw[←hP,←I1] at rB;rw[hjs,e,rB];have bU:(frameS ep ((fs.length+1:Nat):Int) (X.drop P.length)).2=0:=by
    refine bad_none _ (fun x hx=>?_);obtain⟨i,hi,rfl⟩:=List.getElem_of_mem hx;rw[List.length_drop] at hi;rw[List.getElem_drop];exact(FW (P.length+i) (by omega)).resolve_left (fun⟨h,_⟩=>by omega)
   rw[readF_stop bU]
 have hF':∀K i,(kept s.firm s1.loose K j)[i]? =s.firm[i]? ∨(2+us≤i∧i<2+us+P.length∧(kept s.firm s1.loose K j)[i]? =some (sec P (i-(2+us)))):=by
  intro K i;rw[w3];split
  ·rename_i hc
   exact .inr ⟨hc.1,by omega,rfl⟩
  ·exact .inl rfl
 by_cases hg1:s1.goes=true
 ·obtain⟨q1,q2⟩:=Ez hg1
  have ql:s1.flush.firm.length=s.firm.length:=by rw[flush_firm,wf]
  have q3:∀i,s1.flush.firm[i]? =s.firm[i]? ∨(2+us≤i∧i<2+us+P.length∧s1.flush.firm[i]? =some (sec P (i-(2+us)))):=by
   intro i;rw[q2];split
   ·rename_i hc
    exact .inr ⟨hc.1,hc.2,rfl⟩
   ·exact .inl rfl
  refine⟨fun _=>⟨q1,jI _ ql q3,?_⟩,fun K=>?_⟩
  ·have AD:secsF ep 0 (fs++ [cs])=secsF ep 0 fs++P:=by rw[secsF_snoc,hP,Nat.zero_add]
   refine⟨MadeF_snoc hJ.made (by rw[Nat.zero_add];exact hp) hr,?_,?_,?_⟩
   ·rw[ql,AD,List.length_append,←ah];exact hroom
   ·intro i hi
    rw[AD,List.length_append,←ah] at hi;rw[AD];by_cases hlt:i<us
    ·rw[sec_app_left (by omega),sec_get (show s1.flush.firm[2+i]? =s.firm[2+i]? by rw[q2,if_neg (by omega)])]
     exact hJ.at_ i (by omega)
    ·rw[sec_app_right (by omega)]
     refine sec_some ?_;rw[q2,if_pos ⟨by omega,by omega⟩,←ah,show 2+i-(2+us)=i-us by omega]
   ·intro i hi1 hi2
    rw[AD,List.length_append,←ah] at hi1;rw[ql] at hi2;rw[sec_get (show s1.flush.firm[2+i]? =s.firm[2+i]? by rw[q2,if_neg (by omega)])];exact hJ.free i (by omega) hi2
  ·show Rcv ep (kept s1.flush.firm s1.flush.loose K s1.flush.loose.length) _∨Rcv ep (kept s1.flush.firm s1.flush.loose K s1.flush.loose.length) _
   rw[q1];exact hrow _ ql q3
 ·have hg1':s1.goes=false:=by simpa using hg1
  rw[flush_dead hg1'];refine⟨fun h=>(by rw[hg1'] at h;cases h),fun K=>?_⟩;show Rcv ep (kept s1.firm s1.loose K s1.loose.length) _∨Rcv ep (kept s1.firm s1.loose K s1.loose.length) _;rw[wf,w2];exact hrow _ (kept_length _ _ _ _) (hF' K)
end
def noS(s:Sim):Ss:=⟨s,[],0,0,0,0⟩
def openR(s:Sim):Nat×Ss:=
 if (newK s 2).1=0 then (11,noS s) else
 if (rowsT (laidL s (newK s 2).2.1 (newK s 2).2.2)).2≠0 then ((rowsT (laidL s (newK s 2).2.1 (newK s 2).2.2)).2,noS s) else
 if fitB s.firm.length (applyL (rowsT (laidL s (newK s 2).2.1 (newK s 2).2.2)).1 (readS ((newK s 2).1:Int) (secsL s 2 (jN s.firm.length))).1.flatten)=false then (21,noS s) else
 if (newK s 2).1=1073741824 then (32,noS s) else
 (0,ckS ⟨s,applyL (rowsT (laidL s (newK s 2).2.1 (newK s 2).2.2)).1 (readS ((newK s 2).1:Int) (secsL s 2 (jN s.firm.length))).1.flatten,(newK s 2).1,(newK s 2).2.1,0,0⟩)
theorem read_firm{s:Sim}(hl:s.loose= [])(i:Nat):s.read i=sec s.firm i:=by
 unfold Sim.read;rw[hl];rfl
theorem secsL_firm{s:Sim}(hl:s.loose= [])(a n:Nat):secsL s a n=(List.range n).map fun i=>sec s.firm (a+i):=by
 unfold secsL;apply List.map_congr_left;intro i _;exact read_firm hl _
section
variable {s:Sim} {ep ar:Nat} {l0:List Rw} {ps:List (List UInt8)}
theorem newest_hd(hl:s.loose= [])(h:HdA s.firm ep ar l0 ps):newK s 2=(ep,ar,ps.length):=by
 have hn:=h.n;have hm:=h.m;have e1:=h.e1;have e2:=h.e2;have har:=h.arl;have hA:=aN_le s.firm.length;have hp:=h.p;have oR:0<ps.length:=List.length_pos_iff.2 (built_ne h.b);have k1:Str.hOk (Str.headL ep ar ps.length) (aN s.firm.length)=true:=head_ok e1 e2 har oR hp (by omega);have k2:Str.hEp (Str.headL ep ar ps.length)=ep:=head_ep (by omega) _ _;have k3:Str.hAr (Str.headL ep ar ps.length)=ar:=head_ar (by omega) _ _;have k4:Str.hPg (Str.headL ep ar ps.length)=ps.length:=head_pg (by omega) _ _;have hd:=h.hd;have ho:=h.ot;show updH (updH (0,0,0) (s.read 0) (aN s.firm.length)) (s.read 1) (aN s.firm.length)=_;rw[read_firm hl,read_firm hl];rcases Nat.mod_two_eq_zero_or_one ep with h0|h1
 ·rw[h0] at hd ho
  rw[hd];have q1:updH (0,0,0) (Str.headL ep ar ps.length) (aN s.firm.length)=(ep,ar,ps.length):=by
   unfold updH;rw[if_pos ⟨k1,by rw[k2];exact e1⟩,k2,k3,k4]
  rw[q1];unfold updH;rw[if_neg (fun hc=>by have h1:=ho hc.1;have h2:=hc.2;simp only[Nat.sub_zero] at h1 h2;omega)]
 ·rw[h1] at hd ho
  rw[hd];unfold updH;simp only[Nat.sub_self] at ho;by_cases hc:Str.hOk (sec s.firm 0) (aN s.firm.length)=true∧(0:Nat)<Str.hEp (sec s.firm 0)
  ·rw[if_pos hc,if_pos ⟨k1,by rw[k2];exact ho hc.1⟩,k2,k3,k4]
  ·rw[if_neg hc,if_pos ⟨k1,by rw[k2];exact e1⟩,k2,k3,k4]
theorem laid_hd(hl:s.loose= [])(h:HdA s.firm ep ar l0 ps):laidL s ar ps.length=ps:=by
 have bj:=built_256 h.b;unfold laidL;have e:secsL s (firstN s.firm.length ar) (ps.length*4)=chunkL64 ps.flatten:=by
  rw[secsL_firm hl];refine ext_sec (by rw[List.length_map,List.length_range,chunk64_len bj]) (fun i hi=>?_);rw[List.length_map,List.length_range] at hi;rw[←h.pg i hi];refine sec_some ?_;rw[List.getElem?_map,List.getElem?_range hi];rfl
 rw[e,chunk64_flat,chunk256_pages bj]
theorem open_hd(hl:s.loose= [])(h:HdA s.firm ep ar l0 ps)(hf:fitB s.firm.length (rowsOf s.firm ep l0)=true)(he:ep<1073741824):openR s=(0,ckS ⟨s,rowsOf s.firm ep l0,ep,ar,0,0⟩):=by
 have e1:=h.e1;have hj:secsL s 2 (jN s.firm.length)=jsecs s.firm:=secsL_firm hl _ _;unfold openR;rw[newest_hd hl h];simp only;rw[laid_hd hl h,rows_tree h.b,hj];have hf':fitB s.firm.length (applyL l0 (readS (ep:Int) (jsecs s.firm)).1.flatten)=true:=hf;simp only;rw[if_neg (by omega),if_neg (by decide),hf',if_neg (by decide),if_neg (by omega)];rfl
end
theorem OC2.rc{w:World}{base b0:Nat}{v:Value}{rs:List Chg}(h:OC2 w base b0 v rs):RC w v rs:=by
 obtain⟨us,rfl,ho,hf⟩:=h;rcases ho.2 with ⟨rfl,h0⟩|⟨g,cap,cur,rfl,hb,hg,hnc,hcm,hcs,ht⟩
 ·have:us= []:=List.eq_nil_of_length_eq_zero h0
  subst this;exact⟨none,0,rfl,Nat.le_refl _,Nat.zero_le _,.inl rfl⟩
 ·refine⟨some ⟨g,0,none⟩,cap,by rw[List.length_map],by rw[List.length_map];exact hnc,hcm,.inr ⟨g,0,rfl,(Array.getElem?_eq_some_iff.1 hg).1,fun j hj=>?_⟩⟩
  rw[List.length_map] at hj;have hc:=chCells_get us j hj;have h1:=ho.cells (g:=g) rfl _ _ hc.1;have h2:=ho.cells (g:=g) rfl _ _ hc.2.1;have h3:=ho.cells (g:=g) rfl _ _ hc.2.2;rw[Addr.add_lit] at h1 h2 h3;refine⟨by simpa using h1,⟨us[j].2,by simpa [Nat.add_assoc] using h2,?_⟩,by simpa [Nat.add_assoc] using h3⟩;have:=(hf us[j] (List.getElem_mem hj)).rb
  simpa using this
theorem rc_shape{w:World}{v:Value}{cs:List Chg}(h:RC w v cs):∃A c,v= .slice A cs.length c∧cs.length≤c∧(c:Int)≤9223372036854775807:=by
 obtain⟨A,c,h1,h2,h3,_⟩:=h;unfold maxLen at h3;exact⟨A,c,h1,h2,by omega⟩
theorem frame_few{epoch num:Int}{ss:List (List UInt8)}:(frameS epoch num ss).1.length≤49*(frameS epoch num ss).2∧∀c∈(frameS epoch num ss).1,c.2.1.length≤150:=by
 obtain⟨l,c,he⟩:∃l c,frameS epoch num ss=(l,c):=⟨_,_,rfl⟩
 rw[he];by_cases hc:c=0
 ·subst hc
  have hl:l= []:=by
   unfold frameS at he;split at he
   ·injection he with h1 _;exact h1.symm
   ·split at he
    ·injection he with h1 _;exact h1.symm
    ·split at he
     ·injection he with h1 _;exact h1.symm
     ·rename_i h1 h2 h3
      split at he
      ·injection he with _ h5
       rw[h5] at h3;exact(h3 (by rw[List.take_zero];exact readChgs_nil)).elim
      ·injection he with h1 _;exact h1.symm
  subst hl;exact⟨Nat.zero_le _,fun _ h=>(by cases h)⟩
 ·obtain⟨_,h2,_⟩:=frame_good he hc
  have h3:=(readChgs_few h2).2;have h4:=allP_len (ss.take c);have h5:(ss.take c).length≤c:=by rw[List.length_take];omega
  have hv:=readChgs_val (allP (ss.take c));rw[h2] at hv;refine⟨?_,hv⟩;show l.length≤49*c;have:49*(ss.take c).length≤49*c:=Nat.mul_le_mul_left _ h5;omega
theorem readF_few:∀(f:Nat) (ep:Int) (ss:List (List UInt8)) (k:Nat),(readF f ep ss k).1.flatten.length≤49*ss.length∧(readF f ep ss k).1.length≤ss.length∧∀c∈(readF f ep ss k).1.flatten,c.2.1.length≤150
 |0,_,_,_=>⟨Nat.zero_le _,Nat.zero_le _,fun _ h=>(by cases h)⟩
 |f+1,ep,ss,k=>by
  rw[readF];by_cases h:(frameS ep k ss).2=0
  ·rw[if_pos h]
   exact⟨Nat.zero_le _,Nat.zero_le _,fun _ h=>(by cases h)⟩
  ·rw[if_neg h]
   obtain⟨i1,i2,i3⟩:=readF_few f ep (ss.drop (frameS ep k ss).2) (k+1);have h1:=frame_few (epoch:=ep) (num:=k) (ss:=ss);have h2:=frame_le (epoch:=ep) (num:=k) (ss:=ss);rw[List.length_drop] at i1 i2;simp only[List.flatten_cons,List.length_append,List.length_cons];refine⟨?_,by omega,fun c hc=>?_⟩
   ·have:=h1.1
    omega
   ·rcases List.mem_append.1 hc with hc|hc
    ·exact h1.2 c hc
    ·exact i3 c hc
theorem readS_few(ep:Int)(ss:List (List UInt8)):(readS ep ss).1.flatten.length≤49*ss.length∧(readS ep ss).1.length≤ss.length∧∀c∈(readS ep ss).1.flatten,c.2.1.length≤150:=by
 unfold readS;exact readF_few _ _ _ _
theorem updH_good{last:Hd}{l:List UInt8}{most:Nat}(h:0<last.1→last.1≤1073741824∧last.2.1≤1∧1≤last.2.2∧last.2.2≤most):0<(updH last l most).1→(updH last l most).1≤1073741824∧(updH last l most).2.1≤1∧1≤(updH last l most).2.2∧(updH last l most).2.2≤most:=by
 unfold updH;split
 ·rename_i hc
  have h1:=hc.1;unfold Str.hOk at h1;split at h1
  ·rename_i h2
   intro _;exact⟨h2.2.1,by have:=h2.2.2.1;show Str.hAr l≤1;omega,h2.2.2.2⟩
  ·cases h1
 ·exact h
theorem newK_good(s:Sim)(h:0<(newK s 2).1):(newK s 2).1≤1073741824∧(newK s 2).2.1≤1∧1≤(newK s 2).2.2∧(newK s 2).2.2≤aN s.firm.length:=
 updH_good (updH_good (fun h=>absurd h (Nat.lt_irrefl 0))) h
theorem rowsT_good{ps:List (List UInt8)}(h:(rowsT ps).2=0):Sorted (rowsT ps).1∧(rowsT ps).1.length≤5000∧∀r∈(rowsT ps).1,r.2.length≤150:=by
 have key:∀rs,buildL rs=some ps→Sorted rs∧rs.length≤5000∧∀r∈rs,r.2.length≤150:=by
  intro rs hb;obtain⟨h1,h2⟩:=built_sorted hb;refine⟨h1,h2,?_⟩;obtain⟨_,_,ht⟩:=tree_of hb;obtain⟨ho,_⟩:=tree_pre ht;intro r hr;rw[←groups_flatten rs] at hr;obtain⟨c,hc,hrc⟩:=List.mem_flatten.1 hr;have h1:=List.all_eq_true.1 ho c hc;unfold pageOk at h1;simp only[decide_eq_true_eq] at h1;exact(((fitN_all c).1 h1.2.2).2 r hrc).2
 unfold rowsT at h⊢;split
 ·rename_i hc
  rw[if_pos hc] at h;exact(hc h).elim
 ·rename_i hc
  rw[if_neg hc] at h;split
  ·rename_i h2
   exact key _ h2
  ·rename_i h2
   rw[if_neg h2] at h;cases h
def GivesO(D:Nat→Prop)(w:World)(dg:Nat)(r:Nat×Ss)(e:Ending)(w':World):Prop:=
 ∃sv,e= .returned (.tuple #[sv,.int .u16 (r.1:Int)])∧((r.1≠0∧sv= .pointer none∧Below w.heap.size w w')∨(r.1=0∧∃M',Sto dg M' w' sv r.2∧Fr D w w'∧∀k,M' k→D k∨w.heap.size≤k))
theorem GivesO.no{D:Nat→Prop}{w w':World}{dg n:Nat}{r:Nat×Ss}(h:r.1=n)(h0:n≠0)(hb:Below w.heap.size w w'):GivesO D w dg r (.returned (.tuple #[.pointer none,.int .u16 (n:Int)])) w':=by
 subst h;exact⟨_,rfl,.inl ⟨h0,rfl,hb⟩⟩
theorem open_none{D:Nat→Prop}{w:World}{dg:Nat}{s:Sim}(h:Dev D w (.pointer (some ⟨dg,0,none⟩)) s)(hn:64≤s.firm.length)(h0:(newK s 2).1=0):
  Calls Tryz.prog 14 #[.pointer (some ⟨dg,0,none⟩)] w (GivesO D w dg (openR s)):=by
 have H:=qH h;have hn':¬(s.firm.length:Int)<64:=by omega
 have hnew:=newest_any h hn;obtain⟨K,hK⟩:∃K,newK s 2=K:=⟨_,rfl⟩
 obtain⟨ep,ar,pg⟩:=K;have hR:(openR s).1=11:=by unfold openR;rw[if_pos h0]
 rw[hK] at hnew h0;simp only at h0;subst h0;unfold hv3 at hnew;have sn:=qH hnew;have HR:=qH hR;clear h hK hnew hR;go_enter Tryz.func14,Tryz.ntmps14;go_wp2_with (go_at_call 38;refine(len_any H.out).mono ?_;rintro e w1 ⟨rfl,rfl⟩)
 refine sn.out.mono ?_;rintro e w1⟨rfl,hb1⟩;have an:=qH hb1;clear hb1;go_wp2
 go_ret2
 exact GivesO.no HR.out (by decide) (an.out.alloc an.out.size _)
theorem open_st{D:Nat→Prop}{w:World}{dg:Nat}{s:Sim}(h:Dev D w (.pointer (some ⟨dg,0,none⟩)) s)(hn:64≤s.firm.length)(hlo:s.loose.length≤8000)(dO:s.goes=true→s.loose= [])(h0:0<(newK s 2).1):
  Calls Tryz.prog 14 #[.pointer (some ⟨dg,0,none⟩)] w (GivesO D w dg (openR s)):=by
 have HN:=h.ok.n;have bq:=qH h.ok;have H:=qH h;have uj:=qH hlo;have xx:=qH dO;obtain⟨k1,k2,k3,k4⟩:=newK_good s h0;have hnew:=newest_any h hn;obtain⟨K,hK⟩:∃K,newK s 2=K:=⟨_,rfl⟩
 obtain⟨ep,ar,pg⟩:=K;obtain⟨RT,pm⟩:∃RT,RT=rowsT (laidL s ar pg):=⟨_,rfl⟩
 obtain⟨FS,ly⟩:∃FS,FS=readS (ep:Int) (secsL s 2 (jN s.firm.length)):=⟨_,rfl⟩
 have cY:openR s=if RT.2≠0 then (RT.2,noS s) else if fitB s.firm.length (applyL RT.1 FS.1.flatten)=false then (21,noS s) else if ep=1073741824 then (32,noS s) else (0,ckS ⟨s,applyL RT.1 FS.1.flatten,ep,ar,0,0⟩):=by
  unfold openR;rw[if_neg (by omega),hK,pm,ly]
 rw[hK] at hnew h0 k1 k2 k3 k4;simp only at h0 k1 k2 k3 k4;rw[decide_eq_true h0] at hnew;unfold hv3 at hnew;obtain⟨n,hne⟩:∃n,n=s.firm.length:=⟨_,rfl⟩
 have hlen:=fun X (hX:Dev D X (.pointer (some ⟨dg,0,none⟩)) s)=>len_any hX
 rw[←hne] at hlen hn HN k4;have HL:=qH hlen;have al:=fun X=>layout_any (n:Int) (by omega) (by omega) X
 rw[layJ_nat,layA_nat] at al;obtain⟨J,hJ⟩:∃J,J=jN n:=⟨_,rfl⟩
 have uF:2+J≤n∧J≤1024:=by have:=aN_pos hn;have:=aN_le n;have:=jN_le n;omega
 rw[←hJ] at al;have HY:=qH al;have uI:=fun X (hX:Below w.heap.size w X)=>laid_any (w:=X) ep ar pg (H.out.below hX) (by rw[←hne];exact hn) k2 k3 (by rw[←hne];exact k4)
 have JV:=qH uI;have fk:=fun X (hX:Below w.heap.size w X)=>rd_any (w:=X) 2 J (H.out.below hX) (by rw[←hne];exact uF.1)
 have dB:=qH fk;have hsl:(secsL s 2 J).length=J:=secsL_len _ _ _;rw[←hne,←hJ] at ly;have ms:=readS_few (ep:Int) (secsL s 2 J);rw[←ly,hsl] at ms;have qQ:=qH ms;have x7:=qH hsl;have ga:=qH ly;have fX:=qH pm;have fq:=qH cY;have sn:=qH hnew;have fZ:=qH hne;have hn':¬(n:Int)<64:=by omega
 clear h hK hnew hlen al hne hlo dO cY pm ly uI fk hJ ms hsl;go_enter Tryz.func14,Tryz.ntmps14;go_wp2_with (go_at_call 38;refine(HL.out _ H.out).mono ?_;rintro e w1 ⟨rfl,rfl⟩)
 refine sn.out.mono ?_;rintro e w1⟨rfl,hb1⟩;obtain⟨B,hB⟩:∃B,B=Obj.cells #[.int .i64 (ep:Int),.int .i64 (ar:Int),.int .i64 (pg:Int)] 91:=⟨_,rfl⟩
 have kb:Dv.Blk (w1.alloc B) w1.heap.size 91 #[.int .i64 (ep:Int),.int .i64 (ar:Int),.int .i64 (pg:Int)]:=by rw[hB];exact heap_alloc_new w1 _
 have hb2:Below w.heap.size w (w1.alloc B):=hb1.alloc hb1.size _;have hs2:w.heap.size≤w1.heap.size:=hb1.size;have ae:=qH hb2;have KB:=qH kb;have b7:=qH hB;have fE:=qH hs2;clear hb1 kb hb2 hB hs2;go_wp2_with fail
 rw[←b7.out];refine(JV.out _ ae.out).mono ?_;rintro e w3⟨pv,rfl,iV,hb3⟩;have hrows:=rows_any pv (laidL s ar pg) w3 iV.rp;rw[←fX.out] at hrows;have jB:=qH hrows;have ak:=qH (ae.out.trans (hb3.mono ae.out.size));have Gn:=qH (KB.out.below hb3 KB.out.lt);obtain⟨Ap,cp,rfl,_⟩:=iV;clear hrows hb3;go_wp2_with fail
 go_at_call 46;refine jB.out.mono ?_;rintro e w4⟨u,rfl,aK,hb4⟩;obtain⟨Ar,cr,rfl⟩:=or_shape aK;have da:=qH aK;have ai:=qH (ak.out.trans (hb4.mono ak.out.size));have AZ:=qH (Gn.out.below hb4 Gn.out.lt);have eV:=qH hb4;clear aK hb4;by_cases he:RT.2=0
 rotate_left
 ·have hne:¬(RT.2:Int)=0:=by omega
  have HR:=qH (show(openR s).1=RT.2 by rw[fq.out,if_pos he]);have HE:=qH he;clear he;go_wp2
  go_ret2
  exact GivesO.no HR.out HE.out ai.out
 have hg:=rowsT_good (ps:=laidL s ar pg) (by rw[←fX.out];exact he);rw[←fX.out] at hg;have HG:=qH hg;have HE:=qH he;rw[he];clear hg he;go_wp2_with (first|(go_at_call 38;refine(HL.out _ (H.out.below ai.out)).mono ?_;rintro e w1 ⟨rfl,rfl⟩)|(go_at_call 29;refine(HY.out _).mono ?_;rintro e w1 ⟨rfl,rfl⟩))
 refine wp_region_held_drew (S:=fun X=>Dv.Blk X w1.heap.size 91 #[.int .i64 (ep:Int),.int .i64 (ar:Int),.int .i64 (pg:Int)]∧Below w4.heap.size w4 X) (by kernel_rfl) ⟨AZ.out,(Below.refl _ _).drew⟩ (fun hHeld=>?_);refine tkC 0 ?_;refine tkA 1 (v:=?_) ?_ ?_;rotate_left
 ·intro X hSw;have z0:=hSw.1.cell 0;have z1:=hSw.1.cell 1;have z2:=hSw.1.cell 2;simp at z0 z1 z2;go_simp;try (with_reducible rfl)
 try simp only[Act.put,zA,zB,zC]
 refine tkC 2 ?_;refine tkC 3 ?_;refine tkC 4 ?_;refine rdA (rs:= [5]) ?_;refine arC (fun K hK=>?_);go_simp;refine(dB.out _ (ai.out.trans (hHeld.2.mono ai.out.size))).mono ?_;rintro e w5⟨qv,rfl,hop,au⟩;obtain⟨Aq,cq,Kf,_,_⟩:=hop.shape;subst Kf;have b8:=qH hop;have sN:=qH (hHeld.2.trans (au.mono hHeld.2.size));have EA:=qH (hHeld.1.below au hHeld.1.lt);clear hop au;try (go_wp2_with fail)
 have ac:=(show Dv.Blk w5 w1.heap.size 91 #[.int .i64 (ep:Int),.int .i64 (ar:Int),.int .i64 (pg:Int)]∧Below w4.heap.size w4 w5 from⟨EA.out,sN.out⟩)
 refine hK.out _ _ ?_ (fun _=>?_)
 ·exact ac
 clear hK K hHeld;have hHeld:=ac;clear ac;try simp only[Act.put,zA,zB,zC]
 refine rdA (rs:= [6]) ?_;refine arC (fun K hK=>?_);go_simp;have eu:=readP_any (ep:Int) _ (secsL s 2 J) w5 b8.out.rp (by rw[x7.out];omega);rw[←ga.out] at eu;refine eu.mono ?_;clear eu;rintro e w6⟨fv,rfl,hof,ap⟩;obtain⟨Af,cf,tl,_,_⟩:=hof.shape;subst tl;have cm:=qH hof;have Eh:=qH ap.size;have qe:=qH (sN.out.trans (ap.mono sN.out.size));have By:=qH (EA.out.below ap EA.out.lt);clear hof ap;try (go_wp2_with fail)
 have ac:=(show Dv.Blk w6 w1.heap.size 91 #[.int .i64 (ep:Int),.int .i64 (ar:Int),.int .i64 (pg:Int)]∧Below w4.heap.size w4 w6 from⟨By.out,qe.out⟩)
 refine hK.out _ _ ?_ (fun _=>?_)
 ·exact ac
 clear hK K hHeld;have hHeld:=ac;clear ac;try simp only[Act.put,zA,zB,zC]
 refine tkC 7 ?_;refine tkC 8 ?_;refine tkC 9 ?_;refine tkC 10 ?_;refine tkC 11 ?_;refine wpAnyH_done (by kernel_rfl) ?_ _;clear hHeld;have hfl:(catC FS.1).length≤1000000:=by have:=qQ.out.1;unfold catC;omega
 have cG:=concatC_any _ FS.1 w6 w5.heap.size Eh.out cm.out hfl (by have:=qQ.out.2.1;omega);have BT:=qH cG;have iJ:=qH hfl;clear hfl cG;go_wp2_with fail
 go_at_call 51;refine BT.out.mono ?_;rintro e w7⟨cv,rfl,dD,br⟩;obtain⟨Ac,cc,hcv,Ky,JF⟩:=rc_shape dD.rc;subst hcv;have fB:=qH (qe.out.trans (br.mono qe.out.size));have FE:=qH (By.out.below br By.out.lt);obtain⟨RN,Bw⟩:∃RN,RN=applyL RT.1 FS.1.flatten:=⟨_,rfl⟩
 have tQ:=apply_any _ _ RT.1 (catC FS.1) w7 (da.out.below fB.out).rr HG.out.1 dD.rc (by have:=HG.out.2.1;have:=iJ.out;omega) (fun r hr=>by have:=HG.out.2.2 r hr;omega) (fun c hc=>by have:=qQ.out.2.2 c hc;omega);rw[show applyL RT.1 (catC FS.1)=RN from Bw.symm] at tQ;have BU:=qH tQ;have Ct:=qH Bw;clear dD br tQ Bw;go_wp2_with fail
 go_at_call 50;refine BU.out.mono ?_;rintro e w8⟨nv,rfl,AI,cz⟩;obtain⟨An,cn,rfl⟩:=or_shape AI;have Ew:=qH (fB.out.trans (cz.mono fB.out.size));have cI:=qH (ai.out.trans (Ew.out.mono ai.out.size));have Iz:=qH cz;have Ge:=qH (FE.out.below cz FE.out.lt);have hfit:=fun X (hX:Below w8.heap.size w8 X)=>sfit_any (w:=X) (H.out.below (cI.out.trans (hX.mono cI.out.size))) _ RN (rr_below AI.rr hX (Nat.le_refl _))
 rw[←fZ.out] at hfit;have sg:=qH AI;clear AI cz;obtain⟨FB,js⟩:∃FB,FB=fitB n RN:=⟨_,rfl⟩
 rw[←js] at hfit;have eE:=qH hfit;have fi:=qH js;clear hfit js;go_wp2_with fail
 go_at_call 52;refine(eE.out w8 (Below.refl _ _)).mono ?_;rintro e w9⟨rfl,fx⟩;have fG:=qH (cI.out.trans (fx.mono cI.out.size));have F8:=qH (Ge.out.below fx Ge.out.lt);have xF:=qH fx;clear fx
 cases bB:FB with
 |false=>
  subst bB;have HR:=qH (show(openR s).1=21 by rw[fq.out,if_neg (by rw[HE.out];decide),←Ct.out,←fZ.out,←fi.out,if_pos rfl]);go_wp2
  go_ret2
  exact GivesO.no HR.out (by decide) fG.out
 |true=>
  subst bB;have Gm:=F8.out.cell 0;have Fy:=F8.out.cell 1;simp at Gm Fy;go_wp2_with fail
  obtain⟨W,hW⟩:∃W,W=w9.alloc (.cells (sc dg (.slice An RN.length cn) ⟨s,RN,ep,ar,0,0⟩) 107):=⟨_,rfl⟩
  have hbW:Below w9.heap.size w9 W:=by rw[hW];exact(Below.refl _ _).alloc (Nat.le_refl _) _
  have tf:=fG.out.trans (hbW.mono fG.out.size);have AN:=fG.out.size;have Gr:W.heap.size=w9.heap.size+1:=by rw[hW];simp
  have oN:w.heap.size≤w7.heap.size:=Nat.le_trans ai.out.size fB.out.size;have EH:=xF.out.size;have hro:RO (fun k=>w7.heap.size≤k∧k<w8.heap.size) W (.slice An RN.length cn) RN:=(or_ro sg.out (Nat.le_refl _)).keep (by omega) (fun k hk=>(hbW.block k (by omega)).trans (xF.out.block k hk.2));have xQ:Sto dg (fun k=>D k∨k=w9.heap.size∨(w7.heap.size≤k∧k<w8.heap.size)) W (.pointer (some ⟨w9.heap.size,0,none⟩)) ⟨s,RN,ep,ar,0,0⟩:=by
   refine⟨D,fun k=>w7.heap.size≤k∧k<w8.heap.size,w9.heap.size,.slice An RN.length cn,rfl,H.out.below tf,fun hd=>by have:=H.out.lt _ hd;omega,fun k hk=>⟨fun hd=>by have:=H.out.lt _ hd;omega,by omega,by omega⟩,fun k=>Iff.rfl,?_,hro⟩;unfold Dv.Blk;rw[hW];exact heap_alloc_new w9 _
  have dJ:GoodX ⟨s,RN,ep,ar,0,0⟩:=⟨by show 64≤s.firm.length;rw[←fZ.out];exact hn,bq.out,fit_ex (n:=s.firm.length) (r:=RN) (by rw[←fZ.out];exact fi.out.symm),k1,k2,Nat.zero_le _,Nat.le_refl _,uj.out,xx.out⟩
  have ww:=qH xQ;have m6:=qH dJ;have aw:=qH tf;have GH:=qH AN;have Ib:=qH Gr;have uu:=qH oN;unfold sc at hW;rw[show((0:Nat):Int)=0 from rfl] at hW;rw[←hW];clear hW hbW tf AN Gr oN EH hro xQ dJ Gm Fy;by_cases hov:ep=1073741824
  ·have mV:=qH (ck_over ww.out hov)
   have HR:=qH (show(openR s).1=32 by rw[fq.out,if_neg (by rw[HE.out];decide),←Ct.out,←fZ.out,←fi.out,if_neg (by decide),if_pos hov]);refine mV.out.mono ?_;rintro e EW⟨rfl,rfl⟩;clear hov;go_wp2
   go_ret2
   exact GivesO.no HR.out (by decide) aw.out
  ·have mV:=qH (ck_any ww.out m6.out (show ep<1073741824 by omega))
   have HR:=qH (show openR s=(0,ckS ⟨s,RN,ep,ar,0,0⟩) by rw[fq.out,if_neg (by rw[HE.out];decide),←Ct.out,←fZ.out,←fi.out,if_neg (by decide),if_neg hov]);refine mV.out.mono ?_;rintro e EW⟨rfl,M',hst,ay,hk⟩;have HST:=qH hst;have dr:=qH ay;have vf:=qH hk;clear hov hst ay hk;go_wp2
   go_ret2
   refine⟨_,by rw[HR.out];rfl,.inr ⟨by rw[HR.out],M',by rw[HR.out];exact HST.out,(Fr.of_below aw.out).trans dr.out (fun k hk=>?_),fun k hk=>?_⟩⟩
   ·have h9:=GH.out
    have h7:=uu.out;rcases hk with h1|h1|h1
    ·exact .inl h1
    ·exact .inr (by omega)
    ·exact .inr (by omega)
   ·have h9:=GH.out
    have h7:=uu.out;have hW:=Ib.out;rcases vf.out k hk with (h1|h1|h1)|h1
    ·exact .inl h1
    ·exact .inr (by omega)
    ·exact .inr (by omega)
    ·exact .inr (by omega)
theorem open_any{D:Nat→Prop}{w:World}{dg:Nat}{s:Sim}(h:Dev D w (.pointer (some ⟨dg,0,none⟩)) s)(hn:64≤s.firm.length)(hlo:s.loose.length≤8000)(dO:s.goes=true→s.loose= []):
  Calls Tryz.prog 14 #[.pointer (some ⟨dg,0,none⟩)] w (GivesO D w dg (openR s)):=by
 by_cases h0:(newK s 2).1=0
 ·exact open_none h hn h0
 ·exact open_st h hn hlo dO (by omega)
theorem parts_len(e n:Int)(cs:List Chg):(partsL e n cs).1.length≤200:=by
 unfold partsL;split
 ·exact Nat.zero_le _
 ·split
  ·exact Nat.zero_le _
  ·rw[secL_length];omega
theorem layS_loose(s:Sim)(ep ar:Nat)(ps:List (List UInt8))(h:∀p∈ps,p.length=256):(layS s ep ar ps).loose.length≤s.loose.length+ps.length*4+1:=by
 unfold layS;have h1:=flush_loose ((writeL s (firstN s.firm.length ar) (chunkL64 ps.flatten) (chunkL64 ps.flatten).length).flush.write ((ep%2:Nat):Int) (Str.headL ep ar ps.length));have h2:=write_loose (writeL s (firstN s.firm.length ar) (chunkL64 ps.flatten) (chunkL64 ps.flatten).length).flush ((ep%2:Nat):Int) (Str.headL ep ar ps.length);have h3:=flush_loose (writeL s (firstN s.firm.length ar) (chunkL64 ps.flatten) (chunkL64 ps.flatten).length);have h4:=writeL_loose s (firstN s.firm.length ar) (chunkL64 ps.flatten) (chunkL64 ps.flatten).length;have h5:(chunkL64 ps.flatten).length=ps.length*4:=by unfold chunkL64;rw[List.length_map,List.length_range];unfold of64;rw[flat256 h];omega
 have h6:∀k,k=ps.length*4→(writeL s (firstN s.firm.length ar) (chunkL64 ps.flatten) k).loose.length≤s.loose.length+ps.length*4:=fun k hk=>by have:=writeL_loose s (firstN s.firm.length ar) (chunkL64 ps.flatten) k;omega
 have h7:=h6 _ h5;omega
section
variable {D R M R3 E7:Nat→Prop} {g dg:Nat} {rv qy:Value} {w w4 w7 w8:World} {y z:Ss} {d8:Sim} {rows3:List Rw} {u f:Nat}
theorem fr_cells(W:World)(g:Nat)(a b c:Value):Fr (fun j=>j=g) W (((W.setCell ⟨g,1,none⟩ a).setCell ⟨g,4,none⟩ b).setCell ⟨g,5,none⟩ c):=
 Fr.setCell (p:=⟨g,5,none⟩) (Fr.setCell (p:=⟨g,4,none⟩) (Fr.setCell (p:=⟨g,1,none⟩) (Fr.refl (fun j=>j=g) W) (.inl rfl) a) (.inl rfl) b) (.inl rfl) c
theorem put_end(hT:StoA D R M g dg rv w4 y)(h3:RO R3 w4 qy rows3)(h3d:∀k,R3 k→¬D k∧k≠g∧k<w4.heap.size)(mo:Fr D w4 w7)(lX:∀k,E7 k→D k∨w4.heap.size≤k)
  (oy:Dev E7 w8 (.pointer (some ⟨dg,0,none⟩)) d8) (mq:Fr E7 w7 w8) (hB8:Dv.Blk w8 g 107 (sc dg rv y)) (hz:z=⟨d8,rows3,y.ep,y.ar,u,f⟩):
  StoA E7 R3 (fun k=>E7 k∨k=g∨R3 k) g dg qy (((w8.setCell ⟨g,1,none⟩ qy).setCell ⟨g,4,none⟩ (.int .i64 (u:Int))).setCell ⟨g,5,none⟩ (.int .i64 (f:Int))) z:=by
 subst hz;have l5:¬E7 g:=fun hh=>by
  rcases lX g hh with h1|h1
  ·exact hT.hg h1
  ·have:=hT.blk.lt;omega
 have h7:=mo.size;have h8:=mq.size;have hne:∀k,R3 k→¬E7 k:=fun k hr hh=>by
  rcases lX k hh with h1|h1
  ·exact(h3d k hr).1 h1
  ·have:=(h3d k hr).2.2;omega
 have hfc:=fr_cells w8 g qy (.int .i64 (u:Int)) (.int .i64 (f:Int));have hs:=hfc.size;refine⟨oy.fr hfc (by rintro k rfl;exact l5),l5,fun k hr=>⟨hne k hr,(h3d k hr).2.1,by have:=(h3d k hr).2.2;omega⟩,fun k=>Iff.rfl,((hB8.set_ 1 _).set_ 4 _).set_ 5 _,h3.keep (by omega) (fun k hr=>?_)⟩;have h1:=(h3d k hr).2.2;exact(hfc.block k (by omega) (by intro hkg;exact(h3d k hr).2.1 hkg)).trans ((mq.block k (by omega) (hne k hr)).trans (mo.block k h1 (h3d k hr).1))
theorem put_fr(hT:StoA D R M g dg rv w4 y)(mo:Fr D w4 w7)(lX:∀k,E7 k→D k∨w4.heap.size≤k)(mq:Fr E7 w7 w8)(a b c:Value){N:Nat→Prop}(hN:Fr N w w4)(hM:∀k,M k→N k∨w.heap.size≤k):
  Fr N w (((w8.setCell ⟨g,1,none⟩ a).setCell ⟨g,4,none⟩ b).setCell ⟨g,5,none⟩ c):=by
 have hD:∀k,D k→N k∨w.heap.size≤k:=fun k hk=>hM k ((hT.hM k).2 (.inl hk))
 have h1:=hN.trans mo hD;have h2:=h1.trans mq (fun k hk=>by
  rcases lX k hk with h3|h3
  ·exact hD k h3
  ·exact .inr (Nat.le_trans hN.size h3))
 exact h2.trans (fr_cells w8 g a b c) (by rintro k rfl;exact hM _ ((hT.hM _).2 (.inr (.inl rfl))))
theorem put_new(hT:StoA D R M g dg rv w4 y)(lX:∀k,E7 k→D k∨w4.heap.size≤k){N:Nat→Prop}(hs:w.heap.size≤w4.heap.size)(h3:∀k,R3 k→w.heap.size≤k)(hM:∀k,M k→N k∨w.heap.size≤k):
  ∀k,(E7 k∨k=g∨R3 k)→N k∨w.heap.size≤k:=by
 rintro k (h|rfl|h)
 ·rcases lX k h with h1|h1
  ·exact hM k ((hT.hM k).2 (.inl h1))
  ·exact .inr (by omega)
 ·exact hM _ ((hT.hM _).2 (.inr (.inl rfl)))
 ·exact .inr (h3 k h)
end
theorem commit_put{dg:Nat}{M:Nat→Prop}{w:World}{sv lv:Value}{x:Ss}{cs:List Chg}(h:Sto dg M w sv x)(hG:GoodX x)(hc:CO M w lv cs)(hne:cs≠ [])(hl:cs.any longC=false)(hcb:(chgsB cs).length≤100000000)(hcs:cs.length≤100000)(hcv:∀r∈cs,r.2.1.length≤1000000000)(hp:(partsL (x.ep:Int) (x.fr:Int) cs).2=true)(hp1:(partsL (x.ep:Int) (x.fr:Int) cs).1.length≤jN x.n)(hft:fitB x.n (applyL x.rows cs)=true)(hroom:x.us+(partsL (x.ep:Int) (x.fr:Int) cs).1.length≤jN x.n):Calls Tryz.prog 25 #[sv,lv] w fun e w'=>e= .returned (.int .u16 0)∧SDid dg M w sv (putS x cs) w':=by
 obtain⟨D,R,g,rv,rfl,h⟩:=h;have HC:=qH hc;obtain⟨A,c,rfl,hcc,hcm,_⟩:=hc.rc;unfold maxLen at hcm;have hcl:(0:Int)<(cs.length:Int):=by have:=List.length_pos_iff.2 hne;omega
 have gZ:((cs.length:Int)==0)=false:=by rw[beq_eq_false_iff_ne];omega
 have nD:¬(cs.length:Int)=0:=by omega
 have H:=qH h;have HL:=qH (anyLong_any (.slice A cs.length c) cs w hc.rc);rw[hl] at HL;obtain⟨⟨P1,P2⟩,bF⟩:∃PL,PL=partsL (x.ep:Int) (x.fr:Int) cs:=⟨_,rfl⟩
 obtain⟨J,hJ⟩:∃J,J=jN x.n:=⟨_,rfl⟩
 obtain⟨n,hn⟩:∃n,n=x.d.firm.length:=⟨_,rfl⟩
 have kB:64≤n:=by rw[hn];exact hG.n
 have di:n≤4096:=by rw[hn];exact hG.ok.n
 have uF:J≤n:=by rw[hJ,hn];exact Nat.le_trans (jN_le x.d.firm.length) (Nat.div_le_self _ _)
 have ah:x.us≤J:=by rw[hJ];exact hG.us
 have ay:x.fr≤J:=Nat.le_trans hG.fr ah;have fg:=hG.ep;have har:=hG.ar;have hlen:=fun X (hX:Below w.heap.size w X)=>len_any (h.dev.below hX)
 rw[←hn] at hlen;have al:=fun X=>layout_any (n:Int) (by omega) (by omega) X
 rw[layJ_nat,layA_nat,hn,←hJ,←hn] at al;have HLEN:=qH hlen;have bh:=qH al;have iX:=fun X (hX:Fr M w X)=>parts_any (x.ep:Int) (x.fr:Int) _ cs X (hc X hX) hcb (by omega) (fun r hr=>hcv r hr)
 rw[←bF] at iX;have qm:=qH iX;have hcells:=fun X (hX:Below w.heap.size w X)=>h.blk.below hX h.blk.lt
 have aW:=qH hcells;have cW:=qH bF;have HJ:=qH hJ;have ll:=qH hn;have HG:=qH hG;obtain⟨Ar,cr,ib,pO,pt⟩:=rr_shape h.rows.rr;subst ib;obtain⟨kD,kP⟩:∃r,r=applyL x.rows cs:=⟨_,rfl⟩
 have j4:=qH kP;obtain⟨D3,js⟩:∃b,b=fitB n (applyL x.rows cs):=⟨_,rfl⟩
 have fi:=qH js;rw[←bF,←hJ] at hroom;simp only at hroom;rw[←bF] at hp;rw[←bF,←hJ] at hp1;simp only at hp hp1;subst hp;have gK:fitB n kD=true:=by rw[kP,hn];exact hft
 have ud:¬(J:Int)<(P1.length:Int):=by omega
 have cJ:=qH gK;have hroom':¬(J:Int)<(x.us:Int)+(P1.length:Int):=by omega
 have hlo:=hG.lo;clear h hc hG bF hJ hn hlen al iX hcells hcb kP js hft gK;go_enter Tryz.func25,Tryz.ntmps25;go_wp2_with fail
 go_at_call 64;refine HL.out.mono ?_;rintro e w1⟨rfl,hb1⟩;have an:=qH hb1;clear hb1;have c0:=(aW.out _ an.out).cell 0;have c1:=(aW.out _ an.out).cell 1;have c2:=(aW.out _ an.out).cell 2;have c3:=(aW.out _ an.out).cell 3;have c4:=(aW.out _ an.out).cell 4;have c5:=(aW.out _ an.out).cell 5;unfold sc at c0 c1 c2 c3 c4 c5;simp at c0 c1 c2 c3 c4 c5;go_wp2_with (first|(go_at_call 38;refine(HLEN.out _ an.out).mono ?_;rintro e wx ⟨rfl,rfl⟩)|(go_at_call 29;refine(bh.out _).mono ?_;rintro e wx ⟨rfl,rfl⟩))
 refine wp_region_held_drew (S:=fun X=>Below w.heap.size w X) (by kernel_rfl) an.out.drew (fun hHeld=>?_);refine tkC 0 ?_;refine tkC 1 ?_;refine tkC 2 ?_;refine tkA 3 (v:=?_) ?_ ?_;rotate_left
 ·intro X hSw;have zb:=aW.out _ hSw;have z2:=zb.cell 2;have z5:=zb.cell 5;unfold sc at z2 z5;simp at z2 z5;go_simp;try (with_reducible rfl)
 try simp only[Act.put,zA,zB,zC]
 refine tkC 4 ?_;refine tkC 5 ?_;refine tkC 6 ?_;refine tkA 7 (v:=?_) ?_ ?_;rotate_left
 ·intro X hSw;have zb:=aW.out _ hSw;have z2:=zb.cell 2;have z5:=zb.cell 5;unfold sc at z2 z5;simp at z2 z5;go_simp;try (with_reducible rfl)
 try simp only[Act.put,zA,zB,zC]
 refine tkC 8 ?_;refine rdA (rs:= [9]) ?_;refine arC (fun K hK=>?_);go_simp;refine(qm.out _ (Fr.of_below hHeld)).mono ?_;rintro e w2⟨pv,rfl,hop,hb2⟩;obtain⟨Ap,cp,hpv,j8,i9⟩:=hop.shape;subst hpv;have b8:=qH hop;have ae:=qH (hHeld.trans (hb2.mono hHeld.size));have ig:=qH (show w.heap.size≤w1.drew.heap.size from hHeld.size);clear hop hb2;try (go_wp2_with fail)
 have ac:=ae.out;refine hK.out _ _ ?_ (fun _=>?_)
 ·exact ac
 clear hK K hHeld;have hHeld:=ac;clear ac;try simp only[Act.put,zA,zB,zC]
 refine tkC 10 ?_;refine tkC 11 ?_;refine tkC 12 ?_;refine tkC 13 ?_;refine tkC 14 ?_;refine wpAnyH_done (by kernel_rfl) ?_ _;clear hHeld c0 c1 c2 c3 c4 c5;have d0:=(aW.out _ ae.out).cell 0;have d1:=(aW.out _ ae.out).cell 1;have d4:=(aW.out _ ae.out).cell 4;unfold sc at d0 d1 d4;simp at d0 d1 d4;have hap:=apply_any (.slice Ar x.rows.length cr) (.slice A cs.length c) x.rows cs w2 (H.out.rows.keep ae.out.size (fun k hr=>ae.out.block k (H.out.hR k hr).2.2)).rr (rows_few_ HG.out).1 (HC.out _ (Fr.of_below ae.out)) (by have:=(rows_few_ HG.out).2;omega) (fun r hr=>Nat.le_trans (rows_val HG.out r hr) (by decide)) (fun r hr=>Nat.le_trans (hcv r hr) (by decide));rw[←j4.out] at hap;have eA:=qH hap;clear hap;go_wp2_with fail
 go_at_call 50;refine eA.out.mono ?_;rintro e w3⟨qy,rfl,ct,hb3⟩;have ak:=qH (ae.out.trans (hb3.mono ae.out.size));have da:=qH ct;have py:=qH hb3;have qi:w2.heap.size≤w3.heap.size:=hb3.size;obtain⟨A3,c3,kI,mA,mZ⟩:=rr_shape ct.rr;subst kI;clear ct hb3 d0 d1 d4;have g0:=(aW.out _ ak.out).cell 0;have g4:=(aW.out _ ak.out).cell 4;unfold sc at g0 g4;simp at g0 g4;have j3:=qH (sfit_any (H.out.dev.below ak.out) _ _ da.out.rr);rw[←ll.out] at j3;go_wp2_with fail
 go_at_call 52;refine j3.out.mono ?_;rintro e w4⟨rfl,hb4⟩;have ai:=qH (ak.out.trans (hb4.mono ak.out.size));have eV:=qH hb4;clear hb4 g0 g4;have k4:=(aW.out _ ai.out).cell 4;have k0:=(aW.out _ ai.out).cell 0;unfold sc at k4 k0;simp at k4 k0;rw[cJ.out];have HT:=qH (H.out.below ai.out);have yb:=qH H.out.dev.lt;have tn:=qH (show w.heap.size≤w4.drew.heap.size from ai.out.size);have IP:=eV.out;have yR:=IP.size;have iE:=qH ((b8.out.pn.base_ ig.out).below (show Below w2.heap.size w2 w4 from py.out.trans (eV.out.mono qi)));have uj:=qH (show x.d.loose.length+P1.length<100000 by omega);have bO:=qH ((or_ro da.out (Nat.le_refl _)).keep yR (fun k hr=>eV.out.block k hr.2));obtain⟨R3,mc⟩:∃R3:Nat→Prop,R3=fun k=>w2.heap.size≤k∧k<w3.heap.size:=⟨_,rfl⟩
 rw[←mc] at bO;have hs2:=ae.out.size;have tz:=qH (show ∀k,R3 k→¬D k∧k≠g∧k<w4.heap.size by intro k hr;rw[mc] at hr;refine⟨fun hd=>?_,fun he=>?_,by omega⟩;have:=H.out.dev.lt k hd;omega;have:=H.out.blk.lt;omega);have xk:=qH (show putS x cs=⟨(writeL x.d (2+x.us) P1 P1.length).flush,kD,x.ep,x.ar,x.us+P1.length,x.fr+1⟩ by unfold putS;rw[←cW.out,j4.out]);have xL:=qH (Fr.of_below (D:=M) ai.out);have yn:=qH (fun k (hk:M k)=>(Or.inl hk:M k∨w.heap.size≤k));have eF:=qH (show ∀k,R3 k→w.heap.size≤k by intro k hr;rw[mc] at hr;omega);clear mc;have zo:Dv.Blk w4 g 107 #[dv (.pointer (some ⟨dg,0,none⟩)),.slice Ar x.rows.length cr,.int .i64 (x.ep:Int),.int .i64 (x.ar:Int),.int .i64 (x.us:Int),.int .i64 (x.fr:Int)]:=HT.out.blk;have ju:=qH zo;have hwr:=wr_any (w:=w4.drew) (2+x.us) (.slice Ap P1.length cp) P1 w.heap.size (HT.out.dev.below (Below.refl _ _).drew) yb.out tn.out (iE.out.below (Below.refl _ _).drew) (by have:=uj.out;omega) (by omega);have kf:((2+x.us:Nat):Int)=2+(x.us:Int):=by omega
 rw[kf] at hwr;have iK:=qH hwr;have Kc:IntKind.i64.wrap (2+(x.us:Int))=2+(x.us:Int):=by rw[IntKind.wrap_i64];omega
 clear hwr zo kf;go_wp2_with fail
 refine wp_region_held_drew (S:=fun X=>Dv.Blk X g 107 #[dv (.pointer (some ⟨dg,0,none⟩)),.slice Ar x.rows.length cr,.int .i64 (x.ep:Int),.int .i64 (x.ar:Int),.int .i64 (x.us:Int),.int .i64 (x.fr:Int)]) (by kernel_rfl) ju.out (fun hHeld=>?_);refine tkC 0 ?_;refine tkC 1 ?_;refine tkC 2 ?_;refine tkA 3 (v:=?_) ?_ ?_;rotate_left
 ·intro X hSw;have z0:=hSw.cell 0;have z4:=hSw.cell 4;simp at z0 z4;go_simp;try (with_reducible rfl)
 try simp only[Act.put,zA,zB,zC]
 refine tkC 4 ?_;refine tkC 5 ?_;refine tkC 6 ?_;refine tkA 7 (v:=?_) ?_ ?_;rotate_left
 ·intro X hSw;have z0:=hSw.cell 0;have z4:=hSw.cell 4;simp at z0 z4;go_simp;try (with_reducible rfl)
 try simp only[Act.put,zA,zB,zC]
 refine tkC 8 ?_;refine tkC 9 ?_;refine rdA (rs:= [10]) ?_;refine arC (fun K hK=>?_);go_simp;refine iK.out.mono ?_;rintro e w7⟨rfl,E7,vq,mo,lX⟩;have bo:=qH (show Dv.Blk w7 g 107 #[dv (.pointer (some ⟨dg,0,none⟩)),.slice Ar x.rows.length cr,.int .i64 (x.ep:Int),.int .i64 (x.ar:Int),.int .i64 (x.us:Int),.int .i64 (x.fr:Int)] from ju.out.same (mo.block g ju.out.lt HT.out.hg));have EY:=qH vq;have kt:=qH (show Fr D w4 w7 from(Fr.refl D w4).drew.trans mo (fun _ h=> .inl h));have mj:=qH (show ∀k,E7 k→D k∨w4.heap.size≤k from lX);clear vq mo lX;try (go_wp2_with fail)
 have ac:=bo.out;refine hK.out _ _ ?_ (fun _=>?_)
 ·exact ac
 clear hK K hHeld;have hHeld:=ac;clear ac;try simp only[Act.put,zA,zB,zC]
 refine wpAnyH_done (by kernel_rfl) ?_ _;clear hHeld;have p0:=bo.out.cell 0;simp at p0;go_wp2_with fail
 go_at_call 40;refine(flush_any EY.out).mono ?_;rintro e w8⟨rfl,mq,oy⟩;have l5:¬E7 g:=fun hh=>by rcases mj.out g hh with h1|h1;exact HT.out.hg h1;have:=HT.out.blk.lt;omega
 have cI:=qH (show Dv.Blk w8 g 107 #[dv (.pointer (some ⟨dg,0,none⟩)),.slice Ar x.rows.length cr,.int .i64 (x.ep:Int),.int .i64 (x.ar:Int),.int .i64 (x.us:Int),.int .i64 (x.fr:Int)] from bo.out.same (mq.block g bo.out.lt l5));have DA:=qH oy;have nm:=qH mq;have Ia:=qH l5;have q1:=cI.out.cell 1;have q4:=cI.out.cell 4;have q5:=cI.out.cell 5;have y1:=cI.out.frozen 1;have y4:=cI.out.frozen 4;have y5:=cI.out.frozen 5;simp at q1 q4 q5;clear mq oy l5 p0;have Cm:IntKind.i64.wrap ((x.us:Int)+(P1.length:Int))=(x.us:Int)+(P1.length:Int):=by rw[IntKind.wrap_i64];omega
 have Dm:IntKind.i64.wrap ((x.fr:Int)+1)=(x.fr:Int)+1:=by rw[IntKind.wrap_i64];omega
 go_wp2;go_ret;refine⟨rfl,fun k=>E7 k∨k=g∨R3 k,⟨E7,R3,g,.slice A3 kD.length c3,rfl,?_⟩,?_,?_⟩
 ·exact put_end HT.out bO.out tz.out kt.out mj.out DA.out nm.out cI.out xk.out
 ·exact put_fr HT.out kt.out mj.out nm.out _ _ _ xL.out yn.out
 ·exact put_new HT.out mj.out xL.out.size eF.out yn.out
end Go.Proofs.YtmbkaedhllfoeaaGreat
