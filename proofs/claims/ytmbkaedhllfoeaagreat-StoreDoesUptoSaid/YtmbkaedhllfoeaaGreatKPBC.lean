/-
  Texts of the proof, put together.
-/
import Derived.Test.YtmbkaedhllfoeaaGreatKPD
import Derived.Test.YtmbkaedhllfoeaaGreatKPH
import Derived.Test.YtmbkaedhllfoeaaGreatKPWr
set_option maxRecDepth 100000
set_option maxHeartbeats 4000000
set_option linter.unusedVariables false
namespace Go.Proofs.YtmbkaedhllfoeaaGreat
open Go.RowKit Go.Rst Go.Pg
theorem fit_any(v:Value)(rs:List Rw)(w:World)(hv:RR w v rs):
  Calls Tryz.prog 147 #[v] w fun e w'=>e= .returned (.int .i64 (fitN rs:Nat))∧Below w.heap.size w w':=by
 have HV:=qH hv;obtain⟨A,c,rfl,hlc,hc,_⟩:=hv;unfold maxLen at hc;go_enter Tryz.func147,Tryz.ntmps147;go_wp2
 go_loopw [3,8] (fun left i wr=>∃k:Nat,k≤rs.length∧i= .int .i64 k∧left= .int .i64 ((250:Int)-(used (rs.take k):Nat))∧used (rs.take k)≤250∧fitN rs=k+fitF (rs.drop k) (250-used (rs.take k))∧Below w.heap.size w wr)
  (fun _ i _=>rs.length-(intOf i).toNat)
 case atStart=>exact⟨0,Nat.zero_le _,rfl,rfl,by simp[used,body],by simp[used,body,fitN],Below.refl _ _⟩
 case round=>
  obtain⟨k,hk,rfl,rfl,hu,hf,ad⟩:=hrel;by_cases hlt:k<rs.length
  ·obtain⟨b,off,u,rfl,hx0,hy0,fl⟩:=rr_at HV.out hlt
   have hb:b<w.heap.size:=by
    obtain⟨A',c',he,_,_,h3⟩:=HV.out;injection he with e1 _ _;rcases h3 with rfl|⟨b',off',h4,h5,_⟩
    ·simp at hlt
    ·rw[h4] at e1;injection e1 with e1;injection e1 with e1 _ _;omega
   have hx:=(ad.cell (p:=⟨b,off+k*2,none⟩) hb).trans hx0;have hy:=(ad.cell (p:=⟨b,off+k*2+1,none⟩) hb).trans hy0;have bi:=fl.below ad;rw[fit_go hlt hu,used_take hlt] at hf;have mz:=used_take hlt;have eu:=rowB_pos rs[k];unfold rsz at hf mz;generalize rs[k]=r at *;obtain⟨key,l⟩:=r;simp only[] at hx hy bi hf mz;obtain⟨U,hU⟩:∃U,U=used (rs.take k):=⟨_,rfl⟩
   rw[←hU] at hu hf mz;have HU:=qH hU;have HF:=qH hf;have kE:=qH mz;obtain⟨A2,c2,rfl,g1,g2,_⟩:∃A2 c2,u= .slice A2 l.length c2∧l.length≤c2∧c2≤maxLen∧True:=by
    obtain⟨A2,c2,h,h1,h2,_⟩:=bi;exact⟨A2,c2,h,h1,h2,trivial⟩
   have hB:=ad;have HB:=qH ad;have hsz:=ad.size;have HR:=qH bi;unfold maxLen at g2;rw[←hU];clear hU hf mz hx0 hy0 fl ad bi HV;by_cases hkey:30<key.size
   ·have E:=qH (show fitN rs=k by have:=HF.out;rw[if_pos (.inl hkey)] at this;exact this)
    have hkey':(30:Int)<(key.size:Int):=by omega
    clear HF kE;go_wp2;go_ret;rw[E.out];exact⟨rfl,HB.out.alloc hsz _⟩
   ·have hkey':(key.size:Int)≤30:=by omega
    by_cases hval:150<l.length
    ·have E:=qH (show fitN rs=k by have:=HF.out;rw[if_pos (.inr hval)] at this;exact this)
     have hval':(150:Int)<(l.length:Int):=by omega
     clear HF kE;go_wp2;go_ret;rw[E.out];exact⟨rfl,HB.out.alloc hsz _⟩
    ·have hval':(l.length:Int)≤150:=by omega
     have hF:=HF.out;rw[if_neg (by omega)] at hF;have cJ:=qH hF;have hcall:=fun W hW=>row_any key (.slice A2 l.length c2) l (by omega) (by omega) W hW
     have HL:=qH hcall;obtain⟨R,hR⟩:∃R,R=(rowB (key,l)).length:=⟨_,rfl⟩
     have sG:(rowL key.data.toList l).length=R:=hR.symm;rw[←hR] at cJ kE eu;have cM:=qH sG;have Kl:R≤1000000:=by
      have h1:=numL_len8 (n:=key.data.toList.length) (by rw[Array.length_toList];show key.size≤_;omega);have h2:=numL_len8 (n:=l.length) (by omega);have h3:key.data.toList.length=key.size:=by rw[Array.length_toList];rfl
      rw[←sG];unfold rowL textL;simp only[List.length_append];omega
     clear HF hF hcall hR sG;go_wp2_with fail
     refine(HL.out _ (HR.out.alloc _)).mono ?_;rintro e w2⟨v2,rfl,hown2,ag⟩;have hb3:Below w.heap.size w w2:=(HB.out.alloc hsz _).trans (ag.mono (by simp;omega));rw[cM.out] at hown2;obtain⟨A3,c3,rfl,g3⟩:=own_shape hown2;have ak:=qH hb3;clear hown2 ag hb3 hx hy;by_cases hroom:250<U+(1+R)
     ·have E:=qH (show fitN rs=k by have:=cJ.out;rw[if_pos hroom] at this;exact this)
      have hroom':(250:Int)<(U:Int)+(1+(R:Int)):=by omega
      clear cJ kE;go_wp2;go_ret;rw[E.out];exact⟨rfl,ak.out⟩
     ·have hroom':(U:Int)+(1+(R:Int))≤250:=by omega
      have hF:=cJ.out;rw[if_neg hroom] at hF;have ip:=qH hF;clear cJ hF;go_wp2;go_roundw
      case rel=>exact⟨k+1,by omega,by go_num,by rw[kE.out];go_num,by rw[kE.out];omega,by rw[ip.out,kE.out];omega,ak.out⟩
      case measure=>simp[intOf];omega
  ·have e:k=rs.length:=by omega
   have E:=qH (show fitN rs=rs.length by rw[hf,e,List.drop_length];simp[fitF]);have HB:=qH ad;clear hf ad hu;go_wp2;go_ret;rw[E.out];exact⟨rfl,HB.out⟩
open Go.RowKit Go.Rst Go.Pg Go.Crc
def okP(s:List UInt8)(ep n i of:Nat):Prop:=
 s.length=64∧1≤b10 s∧b10 s≤49∧1≤b9 s∧b9 s≤200∧(0<of→b9 s=of)∧partL ep n i (b9 s) (pieceP s)=s∧(i+1<b9 s→b10 s=49)
def GivesPc(w:World)(s:List UInt8)(ep n i of:Nat)(e:Ending)(w':World):Prop:=
 ((okP s ep n i of∧∃u,e= .returned (.tuple #[u,.int .i64 (b9 s:Nat),.bool true])∧RB w u (pieceP s))∨
  (¬okP s ep n i of∧e= .returned (.tuple #[.slice none 0 0,.int .i64 0,.bool false])))∧Below w.heap.size w w'
theorem refPiece_any(v:Value)(s:List UInt8)(ep n i of:Nat)(he:ep≤1073741824)(hn:n≤1073741824)(hi:i≤1000)(hof:of≤1000)(w:World)(hv:RB w v s):
  Calls Tryz.prog 134 #[v,.int .i64 ep,.int .i64 n,.int .i64 i,.int .i64 of] w (GivesPc w s ep n i of):=by
 have HV:=qH hv;obtain⟨A,c,rfl,hlc,hc,_⟩:=hv;unfold maxLen at hc;obtain⟨X9,vN⟩:∃x,x=b9 s:=⟨_,rfl⟩
 obtain⟨es,m3⟩:∃x,x=b10 s:=⟨_,rfl⟩
 have zQ:X9≤255:=by rw[vN];unfold b9;have:=(s.getD 9 0).toNat_lt;omega
 have JJ:es≤255:=by rw[m3];unfold b10;have:=(s.getD 10 0).toNat_lt;omega
 have xd:okP s ep n i of↔(s.length=64∧1≤es∧es≤49∧1≤X9∧X9≤200∧(0<of→X9=of)∧partL ep n i X9 (pieceP s)=s∧(i+1<X9→es=49)):=by unfold okP;rw[←vN,←m3]
 have bq:=qH xd;clear xd;by_cases hl:s.length=64
 ·obtain⟨b,off,rfl,hb,yM⟩:=rb_cell HV.out (k:=9) (by omega)
  obtain⟨b',off',ef,_,y9⟩:=rb_cell HV.out (k:=10) (by omega);injection ef with e;injection e with e1 e2 _;subst e1;subst e2;have Ga:(s[9]'(by omega)).toNat=X9:=by rw[vN];unfold b9;rw[List.getD_eq_getElem?_getD,List.getElem?_eq_getElem (by omega)];rfl
  have zp:(s[10]'(by omega)).toNat=es:=by rw[m3];unfold b10;rw[List.getD_eq_getElem?_getD,List.getElem?_eq_getElem (by omega)];rfl
  unfold bv at yM y9;rw[Ga] at yM;rw[zp] at y9;have AF:=qH vN;have sy:=qH m3;rw[hl] at hlc⊢;have ue:(64:Int)≤c:=by omega
  have Is:(((64:Nat):Int) !=64)=false:=by rfl
  clear Ga zp vN m3;by_cases h1:es<1
  ·have h1':(es:Int)<1:=by omega
   go_enter Tryz.func134,Tryz.ntmps134;go_wp2;refine bodyPost_ret (v:= .tuple #[.slice none 0 0,.int .i64 0,.bool false]) (by simp[results,Tryz.results134,go_sem]) rfl ⟨.inr ⟨fun h=>?_,rfl⟩,Below.refl _ _⟩;obtain⟨g1,g2,g3,g4,g5,g6,_⟩:=bq.out.1 h;omega
  by_cases h2:49<es
  ·have h1':¬(es:Int)<1:=by omega
   have h2':(49:Int)<es:=by omega
   go_enter Tryz.func134,Tryz.ntmps134;go_wp2;refine bodyPost_ret (v:= .tuple #[.slice none 0 0,.int .i64 0,.bool false]) (by simp[results,Tryz.results134,go_sem]) rfl ⟨.inr ⟨fun h=>?_,rfl⟩,Below.refl _ _⟩;obtain⟨g1,g2,g3,g4,g5,g6,_⟩:=bq.out.1 h;omega
  by_cases h3:X9<1
  ·have h1':¬(es:Int)<1:=by omega
   have h2':¬(49:Int)<es:=by omega
   have h3':(X9:Int)<1:=by omega
   go_enter Tryz.func134,Tryz.ntmps134;go_wp2;refine bodyPost_ret (v:= .tuple #[.slice none 0 0,.int .i64 0,.bool false]) (by simp[results,Tryz.results134,go_sem]) rfl ⟨.inr ⟨fun h=>?_,rfl⟩,Below.refl _ _⟩;obtain⟨g1,g2,g3,g4,g5,g6,_⟩:=bq.out.1 h;omega
  by_cases h4:200<X9
  ·have h1':¬(es:Int)<1:=by omega
   have h2':¬(49:Int)<es:=by omega
   have h3':¬(X9:Int)<1:=by omega
   have h4':(200:Int)<X9:=by omega
   go_enter Tryz.func134,Tryz.ntmps134;go_wp2;refine bodyPost_ret (v:= .tuple #[.slice none 0 0,.int .i64 0,.bool false]) (by simp[results,Tryz.results134,go_sem]) rfl ⟨.inr ⟨fun h=>?_,rfl⟩,Below.refl _ _⟩;obtain⟨g1,g2,g3,g4,g5,g6,_⟩:=bq.out.1 h;omega
  have h1':¬(es:Int)<1:=by omega
  have h2':¬(49:Int)<es:=by omega
  have h3':¬(X9:Int)<1:=by omega
  have h4':¬(200:Int)<X9:=by omega
  by_cases h5:0<of∧X9≠of
  ·obtain⟨h5,h6⟩:=h5
   have qd:(0:Int)<of:=by omega
   have h6':((X9:Int) !=of)=true:=by rw[bne_iff_ne];omega
   go_enter Tryz.func134,Tryz.ntmps134;go_wp2;refine bodyPost_ret (v:= .tuple #[.slice none 0 0,.int .i64 0,.bool false]) (by simp[results,Tryz.results134,go_sem]) rfl ⟨.inr ⟨fun h=>?_,rfl⟩,Below.refl _ _⟩;obtain⟨g1,g2,g3,g4,g5,g6,_⟩:=bq.out.1 h;omega
  have CU:0<of→X9=of:=fun h=>Classical.byContradiction fun hh=>h5 ⟨h,hh⟩
  obtain⟨P,hP⟩:∃P,P=pieceP s:=⟨_,rfl⟩
  have yS:P.length=es:=by rw[hP,pieceP_len hl (by rw[←sy.out];omega),sy.out]
  have hcut:=HV.out.cut (q:=11) (n:=es) (by omega);have FJ:(s.drop 11).take es=P:=by rw[hP];unfold pieceP;rw[←sy.out,Nat.min_eq_left (by omega)]
  rw[FJ] at hcut;have p9:=qH hcut;obtain⟨S,hS⟩:∃S,S=partL ep n i X9 P:=⟨_,rfl⟩
  have m7:=fun W (hb:Below w.heap.size w W)=>part_any ep n i X9 _ P (by omega) (by omega) W (hcut.below hb) (by omega)
  rw[←hS] at m7;have dE:=qH m7;have HS:=qH hS;have HP:=qH hP;have cW:=qH yS;have m1:(11:Int)+(es:Int)≤c:=by omega
  clear m7 hcut FJ hP hS;rcases(show(0<of)∨of=0 by omega) with h5b|h5b
  ·have qd:(0:Int)<of:=by omega
   obtain rfl:=CU h5b;have h6':((X9:Int) !=X9)=false:=by simp
   have oV:=qH (show RB w (.slice (some ⟨b,off,none⟩) 64 c) s by have h:=HV.out;rw[hl] at h;exact h);by_cases hse:S=s
   ·have pJ:=qH hse
    rw[hse] at dE;clear hse;have s1:IntKind.i64.wrap ((X9:Int)-1)=(X9:Int)-1:=by rw[IntKind.wrap_i64];omega
    by_cases uI:i+1<X9
    ·have sM:decide ((i:Int)<(X9:Int)-1)=true:=by rw[decide_eq_true_eq];omega
     by_cases h49:es=49
     ·have hne:((es:Int) !=49)=false:=by rw[bne_eq_false_iff_eq];omega
      have Cv:=qH h49;clear h49;go_enter Tryz.func134,Tryz.ntmps134;go_wp2;refine wp_region_held_drew (S:=SB [w]) (by kernel_rfl) (SB.start _) (fun hHeld=>?_);refine tkC 0 ?_;refine tkC 1 ?_;refine tkC 2 ?_;refine tkC 3 ?_;refine tkC 4 ?_;refine tkC 7 ?_;refine tkA 8 (v:=?_) ?_ ?_;rotate_left
      ·intro W hSw;have hq:=str22 (oV.out.below (SB.b0 hSw));go_simp;try (with_reducible rfl)
      try simp only[Act.put,zA,zB,zC]
      refine rdA (rs:= [5]) ?_;refine arC (fun K hK=>?_);go_simp;refine(dE.out _ (SB.b0 hHeld)).mono ?_;rintro e w3⟨v3,rfl,am,aZ⟩;have dI:=qH (RB.own am);obtain⟨A3,c3,rfl,_⟩:=own_shape am;try rw[hl] at dI
      clear am;try (go_wp2_with fail)
      have ac:=SB.step hHeld aZ;refine hK.out _ _ ?_ (fun _=>?_)
      ·exact ac
      clear hK K;try simp only[Act.put,zA,zB,zC]
      have hHeld:=SB.more ac;clear ac;refine wpAnyH_more (S':=SB [w3,w]) (fun W h=>SB.less W h) _ _ _ _ ?_;refine tkA 6 (v:=?_) ?_ ?_;rotate_left
      ·intro W hSw;have hq:=str22 (dI.out.below (SB.b0 hSw));go_simp;try (with_reducible rfl)
      try simp only[Act.put,zA,zB,zC]
      refine tkC 9 ?_;refine tkC 10 ?_;refine tkC 11 ?_;refine tkC 12 ?_;refine tkC 13 ?_;refine tkC 14 ?_;refine tkC 15 ?_;refine tkC 16 ?_;refine tkC 17 ?_;refine tkC 18 ?_;refine tkC 19 ?_;refine tkC 20 ?_;refine wpAnyH_done (by kernel_rfl) ?_ _;have aw:=qH (SB.b1 hHeld);clear hHeld;go_wp2;refine bodyPost_ret (v:= .tuple #[.slice (some ⟨b,off+11,none⟩) es (c-11),.int .i64 X9,.bool true]) (by simp[results,Tryz.results134,go_sem]) rfl ⟨.inl ⟨bq.out.2 ⟨hl,by omega,by omega,by omega,by omega,fun _=>(by first|rfl|trivial),by rw[←HP.out,←HS.out];exact pJ.out,fun _=>Cv.out⟩,_,by rw[AF.out],by rw[←HP.out];exact p9.out⟩,aw.out⟩
     ·have hne:((es:Int) !=49)=true:=by rw[bne_iff_ne];omega
      go_enter Tryz.func134,Tryz.ntmps134;go_wp2;refine wp_region_held_drew (S:=SB [w]) (by kernel_rfl) (SB.start _) (fun hHeld=>?_);refine tkC 0 ?_;refine tkC 1 ?_;refine tkC 2 ?_;refine tkC 3 ?_;refine tkC 4 ?_;refine tkC 7 ?_;refine tkA 8 (v:=?_) ?_ ?_;rotate_left
      ·intro W hSw;have hq:=str22 (oV.out.below (SB.b0 hSw));go_simp;try (with_reducible rfl)
      try simp only[Act.put,zA,zB,zC]
      refine rdA (rs:= [5]) ?_;refine arC (fun K hK=>?_);go_simp;refine(dE.out _ (SB.b0 hHeld)).mono ?_;rintro e w3⟨v3,rfl,am,aZ⟩;have dI:=qH (RB.own am);obtain⟨A3,c3,rfl,_⟩:=own_shape am;try rw[hl] at dI
      clear am;try (go_wp2_with fail)
      have ac:=SB.step hHeld aZ;refine hK.out _ _ ?_ (fun _=>?_)
      ·exact ac
      clear hK K;try simp only[Act.put,zA,zB,zC]
      have hHeld:=SB.more ac;clear ac;refine wpAnyH_more (S':=SB [w3,w]) (fun W h=>SB.less W h) _ _ _ _ ?_;refine tkA 6 (v:=?_) ?_ ?_;rotate_left
      ·intro W hSw;have hq:=str22 (dI.out.below (SB.b0 hSw));go_simp;try (with_reducible rfl)
      try simp only[Act.put,zA,zB,zC]
      refine tkC 9 ?_;refine tkC 10 ?_;refine tkC 11 ?_;refine tkC 12 ?_;refine tkC 13 ?_;refine tkC 14 ?_;refine tkC 15 ?_;refine tkC 16 ?_;refine tkC 17 ?_;refine tkC 18 ?_;refine tkC 19 ?_;refine tkC 20 ?_;refine wpAnyH_done (by kernel_rfl) ?_ _;have aw:=qH (SB.b1 hHeld);clear hHeld;go_wp2;refine bodyPost_ret (v:= .tuple #[.slice none 0 0,.int .i64 0,.bool false]) (by simp[results,Tryz.results134,go_sem]) rfl ⟨.inr ⟨fun h=>?_,rfl⟩,aw.out⟩;obtain⟨g1,g2,g3,g4,g5,g6,g7,g8⟩:=bq.out.1 h;have g:=g8 (by omega);omega
    ·have sM:decide ((i:Int)<(X9:Int)-1)=false:=by rw[decide_eq_false_iff_not];omega
     go_enter Tryz.func134,Tryz.ntmps134;go_wp2;refine wp_region_held_drew (S:=SB [w]) (by kernel_rfl) (SB.start _) (fun hHeld=>?_);refine tkC 0 ?_;refine tkC 1 ?_;refine tkC 2 ?_;refine tkC 3 ?_;refine tkC 4 ?_;refine tkC 7 ?_;refine tkA 8 (v:=?_) ?_ ?_;rotate_left
     ·intro W hSw;have hq:=str22 (oV.out.below (SB.b0 hSw));go_simp;try (with_reducible rfl)
     try simp only[Act.put,zA,zB,zC]
     refine rdA (rs:= [5]) ?_;refine arC (fun K hK=>?_);go_simp;refine(dE.out _ (SB.b0 hHeld)).mono ?_;rintro e w3⟨v3,rfl,am,aZ⟩;have dI:=qH (RB.own am);obtain⟨A3,c3,rfl,_⟩:=own_shape am;try rw[hl] at dI
     clear am;try (go_wp2_with fail)
     have ac:=SB.step hHeld aZ;refine hK.out _ _ ?_ (fun _=>?_)
     ·exact ac
     clear hK K;try simp only[Act.put,zA,zB,zC]
     have hHeld:=SB.more ac;clear ac;refine wpAnyH_more (S':=SB [w3,w]) (fun W h=>SB.less W h) _ _ _ _ ?_;refine tkA 6 (v:=?_) ?_ ?_;rotate_left
     ·intro W hSw;have hq:=str22 (dI.out.below (SB.b0 hSw));go_simp;try (with_reducible rfl)
     try simp only[Act.put,zA,zB,zC]
     refine tkC 9 ?_;refine tkC 10 ?_;refine tkC 11 ?_;refine tkC 12 ?_;refine tkC 13 ?_;refine tkC 14 ?_;refine tkC 15 ?_;refine tkB 16 ?_;refine tkB 17 ?_;refine tkB 18 ?_;refine tkC 19 ?_;refine tkC 20 ?_;refine wpAnyH_done (by kernel_rfl) ?_ _;have aw:=qH (SB.b1 hHeld);clear hHeld;go_wp2;refine bodyPost_ret (v:= .tuple #[.slice (some ⟨b,off+11,none⟩) es (c-11),.int .i64 X9,.bool true]) (by simp[results,Tryz.results134,go_sem]) rfl ⟨.inl ⟨bq.out.2 ⟨hl,by omega,by omega,by omega,by omega,fun _=>(by first|rfl|trivial),by rw[←HP.out,←HS.out];exact pJ.out,fun h=>(by omega)⟩,_,by rw[AF.out],by rw[←HP.out];exact p9.out⟩,aw.out⟩
   ·have hv1:((⟨S.toArray⟩:ByteArray).toList !=(⟨s.toArray⟩:ByteArray).toList)=true:=bne_iff_ne.2 (ba_neL (ba_ne hse))
    have hv2:((⟨S.toArray⟩:ByteArray).toList==(⟨s.toArray⟩:ByteArray).toList)=false:=beq_eq_false_iff_ne.2 (ba_neL (ba_ne hse));obtain⟨z1,hz1⟩:∃z,z=(⟨S.toArray⟩:ByteArray):=⟨_,rfl⟩
    obtain⟨z2,hz2⟩:∃z,z=(⟨s.toArray⟩:ByteArray):=⟨_,rfl⟩
    rw[←hz1,←hz2] at hv1 hv2;have lF:=qH hz1;have jz:=qH hz2;have pJ:=qH hse;clear hz1 hz2 hse;go_enter Tryz.func134,Tryz.ntmps134;go_wp2;refine wp_region_held_drew (S:=SB [w]) (by kernel_rfl) (SB.start _) (fun hHeld=>?_);refine tkC 0 ?_;refine tkC 1 ?_;refine tkC 2 ?_;refine tkC 3 ?_;refine tkC 4 ?_;refine tkC 7 ?_;refine tkA 8 (v:=?_) ?_ ?_;rotate_left
    ·intro W hSw;have hq:=str22 (oV.out.below (SB.b0 hSw));rw[←jz.out] at hq;go_simp;try (with_reducible rfl)
    try simp only[Act.put,zA,zB,zC]
    refine rdA (rs:= [5]) ?_;refine arC (fun K hK=>?_);go_simp;refine(dE.out _ (SB.b0 hHeld)).mono ?_;rintro e w3⟨v3,rfl,am,aZ⟩;have dI:=qH (RB.own am);obtain⟨A3,c3,rfl,_⟩:=own_shape am;try rw[hl] at dI
    clear am;try (go_wp2_with fail)
    have ac:=SB.step hHeld aZ;refine hK.out _ _ ?_ (fun _=>?_)
    ·exact ac
    clear hK K;try simp only[Act.put,zA,zB,zC]
    have hHeld:=SB.more ac;clear ac;refine wpAnyH_more (S':=SB [w3,w]) (fun W h=>SB.less W h) _ _ _ _ ?_;refine tkA 6 (v:=?_) ?_ ?_;rotate_left
    ·intro W hSw;have hq:=str22 (dI.out.below (SB.b0 hSw));rw[←lF.out] at hq;go_simp;try (with_reducible rfl)
    try simp only[Act.put,zA,zB,zC]
    refine tkC 9 ?_;refine tkC 10 ?_;refine tkB 11 ?_;refine tkB 12 ?_;refine tkB 13 ?_;refine tkB 14 ?_;refine tkB 15 ?_;refine tkB 16 ?_;refine tkB 17 ?_;refine tkB 18 ?_;refine tkB 19 ?_;refine tkC 20 ?_;refine wpAnyH_done (by kernel_rfl) ?_ _;have aw:=qH (SB.b1 hHeld);clear hHeld;go_wp2;refine bodyPost_ret (v:= .tuple #[.slice none 0 0,.int .i64 0,.bool false]) (by simp[results,Tryz.results134,go_sem]) rfl ⟨.inr ⟨fun h=>?_,rfl⟩,aw.out⟩;obtain⟨g1,g2,g3,g4,g5,g6,g7,g8⟩:=bq.out.1 h;rw[←HP.out,←HS.out] at g7;exact pJ.out g7
  ·have qd:¬(0:Int)<of:=by omega
   have oV:=qH (show RB w (.slice (some ⟨b,off,none⟩) 64 c) s by have h:=HV.out;rw[hl] at h;exact h);by_cases hse:S=s
   ·have pJ:=qH hse
    rw[hse] at dE;clear hse;have s1:IntKind.i64.wrap ((X9:Int)-1)=(X9:Int)-1:=by rw[IntKind.wrap_i64];omega
    by_cases uI:i+1<X9
    ·have sM:decide ((i:Int)<(X9:Int)-1)=true:=by rw[decide_eq_true_eq];omega
     by_cases h49:es=49
     ·have hne:((es:Int) !=49)=false:=by rw[bne_eq_false_iff_eq];omega
      have Cv:=qH h49;clear h49;go_enter Tryz.func134,Tryz.ntmps134;go_wp2;refine wp_region_held_drew (S:=SB [w]) (by kernel_rfl) (SB.start _) (fun hHeld=>?_);refine tkC 0 ?_;refine tkC 1 ?_;refine tkC 2 ?_;refine tkC 3 ?_;refine tkC 4 ?_;refine tkC 7 ?_;refine tkA 8 (v:=?_) ?_ ?_;rotate_left
      ·intro W hSw;have hq:=str22 (oV.out.below (SB.b0 hSw));go_simp;try (with_reducible rfl)
      try simp only[Act.put,zA,zB,zC]
      refine rdA (rs:= [5]) ?_;refine arC (fun K hK=>?_);go_simp;refine(dE.out _ (SB.b0 hHeld)).mono ?_;rintro e w3⟨v3,rfl,am,aZ⟩;have dI:=qH (RB.own am);obtain⟨A3,c3,rfl,_⟩:=own_shape am;try rw[hl] at dI
      clear am;try (go_wp2_with fail)
      have ac:=SB.step hHeld aZ;refine hK.out _ _ ?_ (fun _=>?_)
      ·exact ac
      clear hK K;try simp only[Act.put,zA,zB,zC]
      have hHeld:=SB.more ac;clear ac;refine wpAnyH_more (S':=SB [w3,w]) (fun W h=>SB.less W h) _ _ _ _ ?_;refine tkA 6 (v:=?_) ?_ ?_;rotate_left
      ·intro W hSw;have hq:=str22 (dI.out.below (SB.b0 hSw));go_simp;try (with_reducible rfl)
      try simp only[Act.put,zA,zB,zC]
      refine tkC 9 ?_;refine tkC 10 ?_;refine tkC 11 ?_;refine tkC 12 ?_;refine tkC 13 ?_;refine tkC 14 ?_;refine tkC 15 ?_;refine tkC 16 ?_;refine tkC 17 ?_;refine tkC 18 ?_;refine tkC 19 ?_;refine tkC 20 ?_;refine wpAnyH_done (by kernel_rfl) ?_ _;have aw:=qH (SB.b1 hHeld);clear hHeld;go_wp2;refine bodyPost_ret (v:= .tuple #[.slice (some ⟨b,off+11,none⟩) es (c-11),.int .i64 X9,.bool true]) (by simp[results,Tryz.results134,go_sem]) rfl ⟨.inl ⟨bq.out.2 ⟨hl,by omega,by omega,by omega,by omega,fun h=>(by omega),by rw[←HP.out,←HS.out];exact pJ.out,fun _=>Cv.out⟩,_,by rw[AF.out],by rw[←HP.out];exact p9.out⟩,aw.out⟩
     ·have hne:((es:Int) !=49)=true:=by rw[bne_iff_ne];omega
      go_enter Tryz.func134,Tryz.ntmps134;go_wp2;refine wp_region_held_drew (S:=SB [w]) (by kernel_rfl) (SB.start _) (fun hHeld=>?_);refine tkC 0 ?_;refine tkC 1 ?_;refine tkC 2 ?_;refine tkC 3 ?_;refine tkC 4 ?_;refine tkC 7 ?_;refine tkA 8 (v:=?_) ?_ ?_;rotate_left
      ·intro W hSw;have hq:=str22 (oV.out.below (SB.b0 hSw));go_simp;try (with_reducible rfl)
      try simp only[Act.put,zA,zB,zC]
      refine rdA (rs:= [5]) ?_;refine arC (fun K hK=>?_);go_simp;refine(dE.out _ (SB.b0 hHeld)).mono ?_;rintro e w3⟨v3,rfl,am,aZ⟩;have dI:=qH (RB.own am);obtain⟨A3,c3,rfl,_⟩:=own_shape am;try rw[hl] at dI
      clear am;try (go_wp2_with fail)
      have ac:=SB.step hHeld aZ;refine hK.out _ _ ?_ (fun _=>?_)
      ·exact ac
      clear hK K;try simp only[Act.put,zA,zB,zC]
      have hHeld:=SB.more ac;clear ac;refine wpAnyH_more (S':=SB [w3,w]) (fun W h=>SB.less W h) _ _ _ _ ?_;refine tkA 6 (v:=?_) ?_ ?_;rotate_left
      ·intro W hSw;have hq:=str22 (dI.out.below (SB.b0 hSw));go_simp;try (with_reducible rfl)
      try simp only[Act.put,zA,zB,zC]
      refine tkC 9 ?_;refine tkC 10 ?_;refine tkC 11 ?_;refine tkC 12 ?_;refine tkC 13 ?_;refine tkC 14 ?_;refine tkC 15 ?_;refine tkC 16 ?_;refine tkC 17 ?_;refine tkC 18 ?_;refine tkC 19 ?_;refine tkC 20 ?_;refine wpAnyH_done (by kernel_rfl) ?_ _;have aw:=qH (SB.b1 hHeld);clear hHeld;go_wp2;refine bodyPost_ret (v:= .tuple #[.slice none 0 0,.int .i64 0,.bool false]) (by simp[results,Tryz.results134,go_sem]) rfl ⟨.inr ⟨fun h=>?_,rfl⟩,aw.out⟩;obtain⟨g1,g2,g3,g4,g5,g6,g7,g8⟩:=bq.out.1 h;have g:=g8 (by omega);omega
    ·have sM:decide ((i:Int)<(X9:Int)-1)=false:=by rw[decide_eq_false_iff_not];omega
     go_enter Tryz.func134,Tryz.ntmps134;go_wp2;refine wp_region_held_drew (S:=SB [w]) (by kernel_rfl) (SB.start _) (fun hHeld=>?_);refine tkC 0 ?_;refine tkC 1 ?_;refine tkC 2 ?_;refine tkC 3 ?_;refine tkC 4 ?_;refine tkC 7 ?_;refine tkA 8 (v:=?_) ?_ ?_;rotate_left
     ·intro W hSw;have hq:=str22 (oV.out.below (SB.b0 hSw));go_simp;try (with_reducible rfl)
     try simp only[Act.put,zA,zB,zC]
     refine rdA (rs:= [5]) ?_;refine arC (fun K hK=>?_);go_simp;refine(dE.out _ (SB.b0 hHeld)).mono ?_;rintro e w3⟨v3,rfl,am,aZ⟩;have dI:=qH (RB.own am);obtain⟨A3,c3,rfl,_⟩:=own_shape am;try rw[hl] at dI
     clear am;try (go_wp2_with fail)
     have ac:=SB.step hHeld aZ;refine hK.out _ _ ?_ (fun _=>?_)
     ·exact ac
     clear hK K;try simp only[Act.put,zA,zB,zC]
     have hHeld:=SB.more ac;clear ac;refine wpAnyH_more (S':=SB [w3,w]) (fun W h=>SB.less W h) _ _ _ _ ?_;refine tkA 6 (v:=?_) ?_ ?_;rotate_left
     ·intro W hSw;have hq:=str22 (dI.out.below (SB.b0 hSw));go_simp;try (with_reducible rfl)
     try simp only[Act.put,zA,zB,zC]
     refine tkC 9 ?_;refine tkC 10 ?_;refine tkC 11 ?_;refine tkC 12 ?_;refine tkC 13 ?_;refine tkC 14 ?_;refine tkC 15 ?_;refine tkB 16 ?_;refine tkB 17 ?_;refine tkB 18 ?_;refine tkC 19 ?_;refine tkC 20 ?_;refine wpAnyH_done (by kernel_rfl) ?_ _;have aw:=qH (SB.b1 hHeld);clear hHeld;go_wp2;refine bodyPost_ret (v:= .tuple #[.slice (some ⟨b,off+11,none⟩) es (c-11),.int .i64 X9,.bool true]) (by simp[results,Tryz.results134,go_sem]) rfl ⟨.inl ⟨bq.out.2 ⟨hl,by omega,by omega,by omega,by omega,fun h=>(by omega),by rw[←HP.out,←HS.out];exact pJ.out,fun h=>(by omega)⟩,_,by rw[AF.out],by rw[←HP.out];exact p9.out⟩,aw.out⟩
   ·have hv1:((⟨S.toArray⟩:ByteArray).toList !=(⟨s.toArray⟩:ByteArray).toList)=true:=bne_iff_ne.2 (ba_neL (ba_ne hse))
    have hv2:((⟨S.toArray⟩:ByteArray).toList==(⟨s.toArray⟩:ByteArray).toList)=false:=beq_eq_false_iff_ne.2 (ba_neL (ba_ne hse));obtain⟨z1,hz1⟩:∃z,z=(⟨S.toArray⟩:ByteArray):=⟨_,rfl⟩
    obtain⟨z2,hz2⟩:∃z,z=(⟨s.toArray⟩:ByteArray):=⟨_,rfl⟩
    rw[←hz1,←hz2] at hv1 hv2;have lF:=qH hz1;have jz:=qH hz2;have pJ:=qH hse;clear hz1 hz2 hse;go_enter Tryz.func134,Tryz.ntmps134;go_wp2;refine wp_region_held_drew (S:=SB [w]) (by kernel_rfl) (SB.start _) (fun hHeld=>?_);refine tkC 0 ?_;refine tkC 1 ?_;refine tkC 2 ?_;refine tkC 3 ?_;refine tkC 4 ?_;refine tkC 7 ?_;refine tkA 8 (v:=?_) ?_ ?_;rotate_left
    ·intro W hSw;have hq:=str22 (oV.out.below (SB.b0 hSw));rw[←jz.out] at hq;go_simp;try (with_reducible rfl)
    try simp only[Act.put,zA,zB,zC]
    refine rdA (rs:= [5]) ?_;refine arC (fun K hK=>?_);go_simp;refine(dE.out _ (SB.b0 hHeld)).mono ?_;rintro e w3⟨v3,rfl,am,aZ⟩;have dI:=qH (RB.own am);obtain⟨A3,c3,rfl,_⟩:=own_shape am;try rw[hl] at dI
    clear am;try (go_wp2_with fail)
    have ac:=SB.step hHeld aZ;refine hK.out _ _ ?_ (fun _=>?_)
    ·exact ac
    clear hK K;try simp only[Act.put,zA,zB,zC]
    have hHeld:=SB.more ac;clear ac;refine wpAnyH_more (S':=SB [w3,w]) (fun W h=>SB.less W h) _ _ _ _ ?_;refine tkA 6 (v:=?_) ?_ ?_;rotate_left
    ·intro W hSw;have hq:=str22 (dI.out.below (SB.b0 hSw));rw[←lF.out] at hq;go_simp;try (with_reducible rfl)
    try simp only[Act.put,zA,zB,zC]
    refine tkC 9 ?_;refine tkC 10 ?_;refine tkB 11 ?_;refine tkB 12 ?_;refine tkB 13 ?_;refine tkB 14 ?_;refine tkB 15 ?_;refine tkB 16 ?_;refine tkB 17 ?_;refine tkB 18 ?_;refine tkB 19 ?_;refine tkC 20 ?_;refine wpAnyH_done (by kernel_rfl) ?_ _;have aw:=qH (SB.b1 hHeld);clear hHeld;go_wp2;refine bodyPost_ret (v:= .tuple #[.slice none 0 0,.int .i64 0,.bool false]) (by simp[results,Tryz.results134,go_sem]) rfl ⟨.inr ⟨fun h=>?_,rfl⟩,aw.out⟩;obtain⟨g1,g2,g3,g4,g5,g6,g7,g8⟩:=bq.out.1 h;rw[←HP.out,←HS.out] at g7;exact pJ.out g7
 ·have Is:((s.length:Int) !=64)=true:=by rw[bne_iff_ne];omega
  clear hlc;go_enter Tryz.func134,Tryz.ntmps134;go_wp2;refine bodyPost_ret (v:= .tuple #[.slice none 0 0,.int .i64 0,.bool false]) (by simp[results,Tryz.results134,go_sem]) rfl ⟨.inr ⟨fun h=>?_,rfl⟩,Below.refl _ _⟩;obtain⟨g1,g2,g3,g4,g5,g6,_⟩:=bq.out.1 h;omega
theorem ok_good{ep n i of:Nat}{s:List UInt8}(h:okP s ep n i of):GoodS ep n s i (b9 s):=by
 obtain⟨h1,h2,h3,h4,h5,h6,h7,h8⟩:=h;exact⟨h1,h2,h3,h7.symm,h8⟩
theorem good_b9{ep n i of:Nat}{s:List UInt8}(h:GoodS ep n s i of)(hof:of≤200):b9 s=of:=by
 have hl:=pieceP_len h.len h.hi;have:=(part_bytes (ep:=ep) (n:=n) (i:=i) (of:=of) (p:=pieceP s) (by rw[hl];exact h.hi) (by omega)).1;rw[←h.eq] at this;exact this
theorem good_ok{ep n i of k:Nat}{s:List UInt8}(h:GoodS ep n s i of)(h1:1≤of)(h2:of≤200)(hk:0<k→k=of):okP s ep n i k:=by
 have hb:=good_b9 h h2;exact⟨h.len,h.lo,h.hi,by omega,by omega,fun hh=>by rw[hb,hk hh],by rw[hb];exact h.eq.symm,fun hh=>h.full (by omega)⟩
structure PF (ep n:Nat) (ss:List (List UInt8)) (i of:Nat):Prop where
 le:i≤ss.length
 head:i=0→of=0
 told:0<i→of=toldL ss∧1≤of∧of≤200∧i≤of
 good:∀j (h:j<ss.length),j<i→GoodS ep n ss[j] j of
section
variable {ep n i of:Nat} {ss:List (List UInt8)}
theorem PF.start(ep n:Nat)(ss:List (List UInt8)):PF ep n ss 0 0:=⟨Nat.zero_le _,fun _=>rfl,fun h=>by omega,fun j _ h=>by omega⟩
theorem told_at(h:0<ss.length)(hl:ss[0].length=64):toldL ss=b9 ss[0]:=by
 cases ss with
 |nil=>simp at h
 |cons s ss=>
  rw[List.getElem_cons_zero] at hl⊢;show(if s.length=64 then b9 s else 0)=b9 s;rw[if_pos hl]
theorem PF.next(h:PF ep n ss i of)(hc:i=0∨i<of)(hi:i<ss.length)(hok:okP ss[i] ep n i of):PF ep n ss (i+1) (b9 ss[i]):=by
 have hg:=ok_good hok;obtain⟨h1,h2,h3,h4,h5,h6,h7,h8⟩:=hok;by_cases h0:i=0
 ·subst h0
  exact⟨hi,fun h=>by omega,fun _=>⟨(told_at hi h1).symm,h4,h5,h4⟩,fun j hj yg=>by
   have:j=0:=by omega
   subst this;exact hg⟩
 ·obtain⟨t1,t2,t3,t4⟩:=h.told (by omega)
  have hb:=h6 (by omega);rw[hb] at hg⊢;exact⟨hi,fun h=>by omega,fun _=>⟨t1,t2,t3,by omega⟩,fun j hj yg=>by
   by_cases e:j=i
   ·subst e;exact hg
   ·exact h.good j hj (by omega)⟩
theorem PF.done(h:PF ep n ss i of)(hc:¬(i=0∨i<of)):i=of∧GoodF ep n ss of:=by
 obtain⟨t1,t2,t3,t4⟩:=h.told (by omega);have hle:=h.le;have e:i=of:=by omega
 subst e;exact⟨rfl,t1,t2,t3,hle,h.good⟩
theorem PF.short(h:PF ep n ss i of)(hc:i=0∨i<of)(hi:i=ss.length):¬GoodF ep n ss (toldL ss):=fun g=>by
 have g1:=g.lo;have g2:=g.le;by_cases h0:i=0
 ·omega
 ·obtain⟨t1,_⟩:=h.told (by omega)
  omega
theorem PF.none(h:PF ep n ss i of)(hc:i=0∨i<of)(hi:i<ss.length)(hok:¬okP ss[i] ep n i of):¬GoodF ep n ss (toldL ss):=fun g=>by
 have g1:=g.lo;have g2:=g.hi;by_cases h0:i=0
 ·subst h0
  have:=h.head rfl;exact hok (good_ok (g.good 0 hi (by omega)) g1 g2 (fun hh=>by omega))
 ·obtain⟨t1,_⟩:=h.told (by omega)
  exact hok (good_ok (g.good i hi (by omega)) g1 g2 (fun _=>t1))
end
theorem frame_no{ep n:Nat}{ss:List (List UInt8)}(h:¬GoodF ep n ss (toldL ss)):frameS ep n ss=([],0):=frame_not h
end Go.Proofs.YtmbkaedhllfoeaaGreat
