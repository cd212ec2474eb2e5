/-
  Texts of the proof, put together.
-/
import Derived.RangeFuncBox
import Derived.Test.YtmbkaedhllfoeaaGreatKPH
import Derived.Test.YtmbkaedhllfoeaaGreatKPWr
set_option maxRecDepth 100000
set_option maxHeartbeats 4000000
set_option linter.unusedVariables false
namespace Go.Proofs.YtmbkaedhllfoeaaGreat
open Go.RowKit Go.Rst Go.Crc
def GivesPt(w:World)(r:List (List UInt8)×Bool)(e:Ending)(w':World):Prop:=
 ∃u,e= .returned (.tuple #[u,.bool r.2])∧OP 5 46 w' w.heap.size u r.1∧Below w.heap.size w w'
theorem GivesPt.none{w w':World}{r:List (List UInt8)×Bool}(h:r=([],false))(hb:Below w.heap.size w w'):GivesPt w r (.returned (.tuple #[.slice none 0 0,.bool false])) w':=by
 subst h;exact⟨_,rfl,OP.nil_ _ _ _ _,hb⟩
theorem chgsL_pos(cs:List Chg):0<(chgsL cs).length:=by
 have:=numL_pos cs.length;unfold chgsL;rw[List.length_append];omega
theorem refParts_any(epoch n:Int)(v:Value)(cs:List Chg)(w:World)(hv:RC w v cs)(hbig:(chgsB cs).length≤100000000)(hn:cs.length≤100000000):
  Calls Tryz.prog 63 #[.int .i64 epoch,.int .i64 n,v] w (GivesPt w (partsL epoch n cs)):=by
 have hcall:=refChanges_any v cs hbig hn;have hbl:(chgsL cs).length≤100000010:=by
  have:=numL_len8 (n:=cs.length) (by omega);unfold chgsL;rw[List.length_append];omega
 have uU:=chgsL_pos cs;have hP:partsL epoch n cs=if epoch<0∨1073741824<epoch∨n<0∨1073741824<n then ([],false)
  else if 200<ofL (chgsL cs) then ([],false) else (secL epoch.toNat n.toNat (chgsL cs) (ofL (chgsL cs)),true):=rfl
 generalize chgsL cs=bl at *;generalize partsL epoch n cs=R at *;have HV:=qH hv;have HC:=qH hcall;clear hv hcall hbig hn;rcases(show epoch<0∨1073741824<epoch∨(0≤epoch∧epoch≤1073741824∧n<0)∨(0≤epoch∧epoch≤1073741824∧1073741824<n)∨(0≤epoch∧epoch≤1073741824∧0≤n∧n≤1073741824) by omega) with h|h|⟨h,h',h''⟩|⟨h,h',h''⟩|⟨h,h',h'',h3⟩
 iterate 4
  ·rw[if_pos (by omega)] at hP
   have HP:=qH hP;clear hP;go_enter Tryz.func63,Tryz.ntmps63;go_wp2
   go_ret2
   exact GivesPt.none HP.out (Below.refl _ _)
 rw[if_neg (by omega)] at hP;obtain⟨ep,rfl⟩:=Int.eq_ofNat_of_zero_le h;obtain⟨fr,rfl⟩:=Int.eq_ofNat_of_zero_le h'';simp only[Int.toNat_natCast] at hP;obtain⟨of,hof⟩:∃of,of=ofL bl:=⟨_,rfl⟩
 rw[←hof] at hP;have lQ:((bl.length:Int)+48)/49=of:=by rw[hof];unfold ofL;omega
 have mQ:((bl.length:Int)+48).tdiv 49=of:=by rw[Int.tdiv_eq_ediv_of_nonneg (by omega)];exact lQ
 have HP:=qH hP;have cm:=qH hof;clear hP;go_enter Tryz.func63,Tryz.ntmps63;go_wp2_with fail
 refine(HC.out _ HV.out).mono ?_;rintro e w1⟨vb,rfl,hown1,aJ⟩;obtain⟨L,hL⟩:∃L,L=bl.length:=⟨_,rfl⟩
 obtain⟨g,cb,rfl⟩:=ownsRow_succ (k:=bl.length-1) (by rw[Nat.sub_add_cancel uU];exact hown1);rw[Nat.sub_add_cancel uU] at hown1⊢;have j1:=qH (RB.own hown1);have an:=qH aJ;have hsz1:=aJ.size;clear hown1 aJ hof;rw[←hL] at lQ mQ hbl⊢;have f8:=qH hL;have hcb:L≤cb:=by
  obtain⟨A',c',he,h1,_⟩:=j1.out;injection he with _ _ e3;omega
 have td:∀k,k<of→49*k<L:=by intro k hk;omega
 have Ig:(of:Int)≤3000000:=by omega
 clear hL uU lQ;by_cases hbig:200<of
 ·have jY:=qH (show R=([],false) by rw[HP.out,if_pos hbig])
  clear HP;go_wp2
  go_ret2
  exact GivesPt.none jY.out an.out
 ·have jY:=qH (show R=(secL ep fr bl of,true) by rw[HP.out,if_neg hbig])
  clear HP;go_wp2
  go_loopw [10,11] (fun o i wr=>∃k:Nat,k≤of∧i= .int .i64 k∧OP 5 46 wr w1.heap.size o (secL ep fr bl k)∧Below w1.heap.size w1 wr)
   (fun _ i _=>of-(intOf i).toNat)
  case atStart=>exact⟨0,Nat.zero_le _,rfl,OP.nil_ _ _ _ _,Below.refl _ _⟩
  case round=>
   obtain⟨k,hk,rfl,hop,ad⟩:=hrel;obtain⟨Ao,co,rfl,_,_⟩:=hop.shape;simp only[secL_length] at hop⊢;have hsz:=ad.size;by_cases hlt:k<of
   ·have hlo:=td k hlt
    have cM:=qH (j1.out.below ad);have lN:=secL_succ ep fr bl k;have jw:=qH lN;have vR:=cm.out;have b8:=qH hop;have HB:=qH ad;have Jn:¬(cb=49*k):=by omega
    clear lN td vR hop ad;have hkk:(k:Int)<of:=by omega
    have JR:(L:Int)≤cb:=by omega
    have hpl:(pcL bl k).length≤49:=by rw[pcL_length];omega
    have cW:=qH hpl;rcases Nat.lt_or_ge L (49*k+49) with hend|hend
    all_goals
     have hpc:=cM.out.cut (q:=49*k) (n:=min 49 (L-49*k)) (by rw[←f8.out];omega);have hpe:(bl.drop (49*k)).take (min 49 (L-49*k))=pcL bl k:=by
      unfold pcL;rw[←List.take_take,List.take_of_length_le (l:=(bl.drop (49*k))) (by rw[List.length_drop,←f8.out];omega)]
     rw[hpe,Nat.zero_add] at hpc;clear hpe
    ·rw[show min 49 (L-49*k)=L-49*k by omega] at hpc
     have kg:=qH hpc;clear hpc hpl;go_wp2_with fail
     refine(part_any ep fr k of _ (pcL bl k) (by omega) (by omega) _ kg.out cW.out).mono ?_;rintro e w4⟨v4,rfl,aO,bY⟩;have cP:=FB.own aO;obtain⟨A4,c4,rfl,_⟩:=own_shape aO;obtain⟨up,hup,hpo,dW⟩:=(b8.out.below bY).alloc (Obj.cells #[.slice A4 (partL ep fr k of (pcL bl k)).length c4] 46);have gx:=(cP.base_ (base':=w1.heap.size) hsz).below ((Below.refl _ _).alloc (Nat.le_refl _) (Obj.cells #[.slice A4 (partL ep fr k of (pcL bl k)).length c4] 46));have aH:=(HB.out.trans (bY.mono hsz)).alloc (HB.out.trans (bY.mono hsz)).size (Obj.cells #[.slice A4 (partL ep fr k of (pcL bl k)).length c4] 46);have jG:=(HB.out.trans (bY.mono hsz)).size;have ji:=qH (show up.length=k by have h:=congrArg List.length hup;rw[List.length_map,secL_length] at h;exact h);have kn:=qH hup;rw[show k=up.length from ji.out.symm] at hpo;have eH:=qH gx;clear hup aO cP gx bY b8;rw[ji.out] at hpo;go_wp2_with (at_builtin;refine wpList_own rfl (.tmp 39) (.tmp 55) 26 26 rfl w1.heap.size 46 (.slice none 0 0) 1 24 Tryz.underlying26 info46 rfl rfl hpo rfl (src_one _ Tryz.underlying26 46 _ rfl) aH (Nat.le_refl _) ?_ ?_ ?_ ?_)
     ·have:=ji.out;unfold maxLen;omega
     ·have:=ji.out;omega
     ·simp;omega
     intro v6 w6 dG ap hg6;have eg:=OP.push (e:=5) (eP:=46) (by decide) (by rw[ji.out];exact hpo) dW eH.out (by rw[ji.out];exact dG) hg6;rw[kn.out,cm.out,←jw.out] at eg;have jh:=qH eg;have aE:=qH ap;clear hpo dW dG ap hg6 eg aH;go_wp2;go_roundw
     case rel=>exact⟨k+1,by omega,by go_num,jh.out,aE.out⟩
     case measure=>simp[intOf];omega
    ·rw[show min 49 (L-49*k)=49 by omega] at hpc
     have kg:=qH hpc;clear hpc hpl;go_wp2_with fail
     refine(part_any ep fr k of _ (pcL bl k) (by omega) (by omega) _ kg.out cW.out).mono ?_;rintro e w4⟨v4,rfl,aO,bY⟩;have cP:=FB.own aO;obtain⟨A4,c4,rfl,_⟩:=own_shape aO;obtain⟨up,hup,hpo,dW⟩:=(b8.out.below bY).alloc (Obj.cells #[.slice A4 (partL ep fr k of (pcL bl k)).length c4] 46);have gx:=(cP.base_ (base':=w1.heap.size) hsz).below ((Below.refl _ _).alloc (Nat.le_refl _) (Obj.cells #[.slice A4 (partL ep fr k of (pcL bl k)).length c4] 46));have aH:=(HB.out.trans (bY.mono hsz)).alloc (HB.out.trans (bY.mono hsz)).size (Obj.cells #[.slice A4 (partL ep fr k of (pcL bl k)).length c4] 46);have jG:=(HB.out.trans (bY.mono hsz)).size;have ji:=qH (show up.length=k by have h:=congrArg List.length hup;rw[List.length_map,secL_length] at h;exact h);have kn:=qH hup;rw[show k=up.length from ji.out.symm] at hpo;have eH:=qH gx;clear hup aO cP gx bY b8;rw[ji.out] at hpo;go_wp2_with (at_builtin;refine wpList_own rfl (.tmp 39) (.tmp 55) 26 26 rfl w1.heap.size 46 (.slice none 0 0) 1 24 Tryz.underlying26 info46 rfl rfl hpo rfl (src_one _ Tryz.underlying26 46 _ rfl) aH (Nat.le_refl _) ?_ ?_ ?_ ?_)
     ·have:=ji.out;unfold maxLen;omega
     ·have:=ji.out;omega
     ·simp;omega
     intro v6 w6 dG ap hg6;have eg:=OP.push (e:=5) (eP:=46) (by decide) (by rw[ji.out];exact hpo) dW eH.out (by rw[ji.out];exact dG) hg6;rw[kn.out,cm.out,←jw.out] at eg;have jh:=qH eg;have aE:=qH ap;clear hpo dW dG ap hg6 eg aH;go_wp2;go_roundw
     case rel=>exact⟨k+1,by omega,by go_num,jh.out,aE.out⟩
     case measure=>simp[intOf];omega
   ·obtain rfl:k=of:=by omega
    clear mQ td;go_wp2
    go_ret2
    rw[jY.out];exact⟨_,rfl,hop.base_ hsz1,an.out.trans (ad.mono hsz1)⟩
theorem info56:(Tryz.prog.info? 56).map (fun i=>(i.zero,i.size,i.bytes))=some (some (.slice none 0 0),1,24):=by kernel_rfl
def RF(w:World)(v:Value)(fs:List (List Chg)):Prop:=
 ∃A c,v= .slice A fs.length c∧fs.length≤c∧c≤maxLen∧(fs= []∨∃b off,A=some ⟨b,off,none⟩∧b<w.heap.size∧∀j (h:j<fs.length),∃u,w.cell? ⟨b,off+j,none⟩=some u∧RC w u fs[j])
def OF(w:World)(base:Nat)(v:Value)(fs:List (List Chg)):Prop:=
 ∃us:List (List Chg×Value),us.map (·.1)=fs∧w.ownsRow base 56 1 v us.length (us.map (·.2))∧∀x∈us,OC 5 76 w base x.2 x.1
theorem OF.nil_(w:World)(base:Nat):OF w base (.slice none 0 0) []:=⟨[],rfl,World.ownsRow_nil _ _ _ _,fun _ h=>by cases h⟩
theorem OF.rf{w:World}{base:Nat}{v:Value}{fs:List (List Chg)}(h:OF w base v fs):RF w v fs:=by
 obtain⟨us,rfl,ho,hf⟩:=h;rcases ho.2 with ⟨rfl,h0⟩|⟨g,cap,cur,rfl,hb,hg,hnc,hcm,hcs,ht⟩
 ·have:us= []:=List.eq_nil_of_length_eq_zero h0
  subst this;exact⟨none,0,rfl,Nat.le_refl _,Nat.zero_le _,.inl rfl⟩
 ·refine⟨some ⟨g,0,none⟩,cap,by rw[List.length_map],by rw[List.length_map];exact hnc,hcm,.inr ⟨g,0,rfl,(Array.getElem?_eq_some_iff.1 hg).1,fun j hj=>?_⟩⟩
  rw[List.length_map] at hj;have hc:=ho.cells (g:=g) rfl j us[j].2 (by simp[hj]);rw[Addr.add_lit] at hc;refine⟨us[j].2,hc,?_⟩;have:=(hf us[j] (List.getElem_mem hj)).rc
  simpa using this
theorem OF.shape{w:World}{base:Nat}{v:Value}{fs:List (List Chg)}(h:OF w base v fs):∃A c,v= .slice A fs.length c∧(c:Int)≤9223372036854775807∧fs.length≤c:=by
 obtain⟨A,c,h,h1,h2,_⟩:=h.rf;refine⟨A,c,h,?_,h1⟩;unfold maxLen at h2;omega
theorem OF.below{w w':World}{base:Nat}{v:Value}{fs:List (List Chg)}(h:OF w base v fs)(hb:Below w.heap.size w w'):OF w' base v fs:=by
 obtain⟨us,h1,ho,hf⟩:=h;exact⟨us,h1,own_below ho hb,fun x hx=>(hf x hx).below hb⟩
theorem OF.base_{w:World}{base base':Nat}{v:Value}{fs:List (List Chg)}(h:OF w base v fs)(hb:base'≤base):OF w base' v fs:=by
 obtain⟨us,h1,ho,hf⟩:=h;exact⟨us,h1,own_base ho hb,fun x hx=>(hf x hx).base_ hb⟩
theorem oc_grown{e eR e':TypeId}{w w':World}{base base' size m:Nat}{v r:Value}{cs:List Chg}{ys:List Value}(h:OC e eR w base v cs)(hr:w.ownsRow base' e' size r m ys)(h1:e≠e')(h2:eR≠e')
  (hg:w.grownBy w' r.ownBlock):OC e eR w' base v cs:=by
 obtain⟨us,hu,ho,hf⟩:=h;exact⟨us,hu,own_grown ho hr h2 hg,fun x hx=>(hf x hx).grown hr h1 hg⟩
theorem OF.push{w w':World}{base:Nat}{v v' u:Value}{us:List (List Chg×Value)}{l:List Chg}
  (ho:w.ownsRow base 56 1 v us.length (us.map (·.2))) (hf:∀x∈us,OC 5 76 w base x.2 x.1) (hu:OC 5 76 w base u l)
  (ho':w'.ownsRow base 56 1 v' (us.length+1) (us.map (·.2)++ [u])) (hg:w.grownBy w' v.ownBlock):OF w' base v' (us.map (·.1)++ [l]):=by
 refine⟨us++ [(l,u)],by simp,by rw[List.map_append,List.length_append];exact ho',fun x hx=>?_⟩;rcases List.mem_append.1 hx with hx|hx
 ·exact oc_grown (hf x hx) ho (by decide) (by decide) hg
 ·simp at hx
  subst hx;exact oc_grown hu ho (by decide) (by decide) hg
theorem rp_cut{X:World}{A:Option Addr}{n c:Nat}{ps:List (List UInt8)}(h:RP X (.slice A n c) ps){K:Nat}(hK:K≤n):
  RP X (.slice (if c=K then A else Option.map (fun x=>x.add K) A) (n-K) (c-K)) (ps.drop K):=by
 obtain⟨A',c',he,h1,h2,h3⟩:=h;injection he with e1 e2 e3;subst e1;subst e3;subst e2;have hl:(ps.drop K).length=ps.length-K:=List.length_drop;by_cases hd:ps.length≤K
 ·rw[List.drop_eq_nil_of_le hd]
  exact⟨_,_,by rw[show ps.length-K=0 from by omega];rfl,Nat.zero_le _,by omega,.inl rfl⟩
 ·have cj:¬c=K:=by omega
  rw[if_neg cj];rcases h3 with rfl|⟨b,off,rfl,hb,hc⟩
  ·simp at hd
  ·refine⟨some ⟨b,off+K,none⟩,c-K,by rw[hl];simp only[Option.map_some,Addr.add_lit],by rw[hl];omega,by omega,.inr ⟨b,off+K,rfl,hb,fun j hj=>?_⟩⟩
   rw[hl] at hj;obtain⟨u,h4,h5⟩:=hc (K+j) (by omega);exact⟨u,by rw[Nat.add_assoc];exact h4,by rw[List.getElem_drop];exact h5⟩
def Left(ep:Int)(ss:List (List UInt8))(R:List (List Chg)×Nat)(fs:List (List Chg))(at_:Nat):Prop:=
 at_≤ss.length∧∃f,ss.length-at_<f∧R=(fs++(readF f ep (ss.drop at_) fs.length).1,at_+(readF f ep (ss.drop at_) fs.length).2)
theorem Left.start(ep:Int)(ss:List (List UInt8)):Left ep ss (readS ep ss) [] 0:=⟨Nat.zero_le _,ss.length+1,by omega,by unfold readS;simp⟩
theorem Left.stop{ep:Int}{ss:List (List UInt8)}{R:List (List Chg)×Nat}{fs:List (List Chg)}{at_:Nat}(h:Left ep ss R fs at_)(h0:(frameS ep fs.length (ss.drop at_)).2=0):R=(fs,at_):=by
 obtain⟨_,f,hf,hR⟩:=h;obtain⟨f,rfl⟩:∃j,f=j+1:=⟨f-1,by omega⟩
 rw[hR,readF,if_pos h0];simp
theorem Left.next{ep:Int}{ss:List (List UInt8)}{R:List (List Chg)×Nat}{fs:List (List Chg)}{at_:Nat}(h:Left ep ss R fs at_)(h0:(frameS ep fs.length (ss.drop at_)).2≠0):
  Left ep ss R (fs++ [(frameS ep fs.length (ss.drop at_)).1]) (at_+(frameS ep fs.length (ss.drop at_)).2):=by
 obtain⟨hle,f,hf,hR⟩:=h;have hl:=frame_le (epoch:=ep) (num:=fs.length) (ss:=ss.drop at_);rw[List.length_drop] at hl;obtain⟨f,rfl⟩:∃j,f=j+1:=⟨f-1,by omega⟩
 refine⟨by omega,f,by omega,?_⟩;rw[hR,readF,if_neg h0,List.drop_drop,List.length_append,List.length_singleton];simp only[List.append_assoc,List.cons_append,List.nil_append,Nat.add_assoc]
end Go.Proofs.YtmbkaedhllfoeaaGreat
