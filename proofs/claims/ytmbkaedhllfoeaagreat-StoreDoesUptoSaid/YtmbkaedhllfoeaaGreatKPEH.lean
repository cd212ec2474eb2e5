/-
  Texts of the proof, put together.
-/
import Derived.RangeFuncBox
import Derived.Test.YtmbkaedhllfoeaaGreatKPD
import Derived.Test.YtmbkaedhllfoeaaGreatKPEC
import Derived.Test.YtmbkaedhllfoeaaGreatKPEF
import Derived.Test.YtmbkaedhllfoeaaGreatKPEG
import Derived.Test.YtmbkaedhllfoeaaGreatKPWr
set_option maxRecDepth 100000
set_option maxHeartbeats 4000000
set_option linter.unusedVariables false
namespace Go.Pg
open Go.Rst
theorem step_out{l:List Rw}{k:ByteArray}{v:List UInt8}(hl:Sorted l)(h:hasL k l=true):stepL l (k,v,true)=l.take (posL k l)++l.drop (posL k l+1):=by
 unfold stepL;rw[if_pos rfl,out_pos hl,if_pos h]
theorem step_none{l:List Rw}{k:ByteArray}{v:List UInt8}(hl:Sorted l)(h:hasL k l=false):stepL l (k,v,true)=l:=by
 unfold stepL;rw[if_pos rfl,out_pos hl,if_neg (by rw[h];decide)]
theorem step_set{l:List Rw}{k:ByteArray}{v:List UInt8}(hl:Sorted l)(h:hasL k l=true):stepL l (k,v,false)=l.set (posL k l) (k,v):=by
 unfold stepL;rw[if_neg (by simp),lay_pos hl,if_pos h]
theorem step_ins{l:List Rw}{k:ByteArray}{v:List UInt8}(hl:Sorted l)(h:hasL k l=false):stepL l (k,v,false)=l.take (posL k l)++(k,v)::l.drop (posL k l):=by
 unfold stepL;rw[if_neg (by simp),lay_pos hl,if_neg (by simp only;rw[h];decide)]
theorem has_lt{l:List Rw}{k:ByteArray}(h:hasL k l=true):posL k l<l.length:=by
 rcases Nat.lt_or_ge (posL k l) l.length with h1|h1
 ·exact h1
 ·rw[has_end (by omega)] at h
  cases h
end Go.Pg
namespace Go.Proofs.YtmbkaedhllfoeaaGreat
open Go.RowKit Go.Rst Go.Pg Go.Crc
theorem own_below_lt{w:World}{base:Nat}{v:Value}{rs:List Rw}(h:OR 5 78 w base v rs)(g:Nat)(hg:v.ownBlock=some g):g<w.heap.size:=by
 obtain⟨us,_,ho,_⟩:=h;rcases ho.2 with ⟨rfl,_⟩|⟨g',cap,cur,rfl,_,hgb,_⟩
 ·simp[Value.ownBlock] at hg
 ·obtain rfl:g'=g:=by simpa [Value.ownBlock] using hg
  exact(Array.getElem?_eq_some_iff.1 hgb).1
theorem apply_any(v u:Value)(rs:List Rw)(cs:List Chg)(w:World)(hv:RR w v rs)(hs:Sorted rs)(hu:RC w u cs)(hlen:rs.length+cs.length≤3000000000000)(hrl:∀r∈rs,r.2.length≤140737488355328)(hcl:∀c∈cs,c.2.1.length≤140737488355328):
  Calls Tryz.prog 50 #[v,u] w fun e w'=>∃v',e= .returned v'∧OR 5 78 w' w.heap.size v' (applyL rs cs)∧Below w.heap.size w w':=by
 have HV:=qH hv;have HC:=qH hu;have HS:=qH hs;have uX:=qH hrl;have l9:=qH hcl;obtain⟨A0,c0,rfl,_,_⟩:=rr_shape hv;obtain⟨Au,cu,rfl,Hc,kf,_⟩:=hu;unfold maxLen at kf;clear hv hs hrl hcl;go_enter Tryz.func50,Tryz.ntmps50;go_wp2
 go_loopw [5,15] (fun ov i wr=>∃k:Nat,k≤rs.length∧i= .int .i64 k∧OR 5 78 wr w.heap.size ov (rs.take k)∧Below w.heap.size w wr) (fun _ i _=>rs.length-(intOf i).toNat)
 case atStart=>exact⟨0,Nat.zero_le _,rfl,OR.nil_ _ _ _ _,Below.refl _ _⟩
 case round=>
  obtain⟨k,hk,rfl,aK,ad⟩:=hrel;obtain⟨Wo,iq⟩:∃x,x=wr:=⟨_,rfl⟩
  subst iq;by_cases hlt:k<rs.length
  ·obtain⟨b,off,u1,rfl,hx1,hy1,hr1⟩:=rr_at HV.out hlt
   have aj:b<w.heap.size:=block_lt_of_cell hx1;have ix:=(ad.cell (p:=⟨b,off+k*2,none⟩) aj).trans hx1;have mM:=(ad.cell (p:=⟨b,off+k*2+1,none⟩) aj).trans hy1;have hrow:=hr1.below ad;have htake:=List.take_succ_eq_append_getElem hlt;have hvl:=uX.out rs[k] (List.getElem_mem hlt);obtain⟨kk,hkk⟩:∃x,x=rs[k].1:=⟨_,rfl⟩
   obtain⟨vv,hvv⟩:∃x,x=rs[k].2:=⟨_,rfl⟩
   have qJ:rs[k]=(kk,vv):=by rw[hkk,hvv]
   rw[←hkk] at ix;rw[←hvv] at hrow hvl;rw[qJ] at htake;obtain⟨A1,c1,ah⟩:=rb_shape hrow;obtain⟨nv,rG⟩:∃nv,nv=vv.length:=⟨_,rfl⟩
   rw[←rG] at ah;subst ah;obtain⟨us,ah,ho,hf⟩:=aK;have eY:us.length=k:=by have h:=congrArg List.length ah;rw[List.length_map,List.length_take] at h;omega
   have hcall:=rowB_any kk (.slice A1 nv c1) vv (Wo.alloc (.cells #[.string kk,.slice A1 nv c1] 78)) (hrow.alloc _) hvl;have pN:=qH hcall;have HT:=qH htake;have ce:=qH ah;have HO:=qH ho;have HF:=qH hf;have HB:=qH ad;have bt:=qH eY;obtain⟨Ao,co,rfl,_⟩:=own_shape ho;have hsz:=ad.size;have q1:(0:Int)≤(k:Int):=by omega
   have q2:(k:Int)<rs.length:=by omega
   clear hx1 hy1 hr1 hcall htake ah ho hf ad hrow hkk hvv qJ rG hvl eY;go_wp2_with fail
   refine pN.out.mono ?_;rintro e w3⟨u3,rfl,tS,aA⟩;obtain⟨A3,c3,rfl⟩:=tS.shape;have b1:Below Wo.heap.size Wo w3:=((Below.refl _ _).alloc (Nat.le_refl _) _).trans (aA.mono (by simp));have b2:Below Wo.heap.size Wo (w3.alloc (.cells #[.string kk,.slice A3 vv.length c3] 78)):=b1.alloc b1.size _;have aI:=own_below HO.out b2;have iA:∀x∈us,FB 5 (w3.alloc (.cells #[.string kk,.slice A3 vv.length c3] 78)) w.heap.size x.2.2 x.2.1:=fun x hx=>(HF.out x hx).below b2
   have GB:FB 5 (w3.alloc (.cells #[.string kk,.slice A3 vv.length c3] 78)) w.heap.size (.slice A3 vv.length c3) vv:=(tS.base_ (by simp;omega)).below ((Below.refl _ _).alloc (Nat.le_refl _) _);have au:=HB.out.trans (b2.mono hsz);have jg:=b1.size;have eH:=qH iA;have Kg:=qH GB;clear tS aA b1 b2 iA GB;go_wp2_with (at_builtin;refine wpList_own rfl (.tmp 19) (.tmp 25) 40 40 rfl w.heap.size 78 (.agg #[.string ⟨#[]⟩,.slice none 0 0]) 2 40 Tryz.underlying40 info78 rfl rfl aI rfl (src_two _ (by simp) Tryz.underlying40 78 _ _ rfl rfl) au (Nat.le_refl _) ?_ ?_ ?_ ?_)
   ·have:=bt.out;unfold maxLen;omega
   ·have:=bt.out;omega
   ·simp;omega
   intro v6 w6 dG ap hg6;have fA:=OR.push (by decide) aI eH.out Kg.out dG hg6;rw[ce.out,←HT.out] at fA;have jZ:=qH fA;have aE:=qH ap;clear aI dG hg6 fA ap au;go_wp2;go_roundw
   case rel=>exact⟨k+1,by omega,by go_num,jZ.out,aE.out⟩
   case measure=>simp[intOf];omega
  ·obtain rfl:k=rs.length:=by omega
   rw[List.take_length] at aK;obtain⟨Ao,co,rfl⟩:=or_shape aK;have hsz:=ad.size;have FU:=qH (sortedF_any _ rs Wo aK.rr HS.out (by omega));have HO:=qH aK;have HB:=qH ad;clear aK ad;go_wp2_with fail
   refine FU.out.mono ?_;rintro e w2⟨rfl,hb2⟩;have fQ:=qH (HO.out.below hb2);have ae:=qH (HB.out.trans (hb2.mono hsz));clear hb2 FU HO HB;go_wp2
   go_loopw [5,32] (fun ov i wr=>∃k:Nat,k≤cs.length∧i= .int .i64 k∧OR 5 78 wr w.heap.size ov (applyL rs (cs.take k))∧Below w.heap.size w wr) (fun _ i _=>cs.length-(intOf i).toNat)
   case atStart=>exact⟨0,Nat.zero_le _,rfl,fQ.out,ae.out⟩
   case round=>
    clear fQ ae;obtain⟨k,hk,rfl,aK,ad⟩:=hrel;obtain⟨Wp,Kb⟩:∃x,x=wr:=⟨_,rfl⟩
    subst Kb;have hal:=applyL_len rs (cs.take k);rw[List.length_take] at hal;by_cases hlt:k<cs.length
    ·skip
     obtain⟨b,off,uv,rfl,hx,hy,hr,hz⟩:=rc_at HC.out hlt;have aj:b<w.heap.size:=block_lt_of_cell hx;have hstep:=applyL_take (l:=rs) hlt;have hsrt:=applyL_sorted (cs:=cs.take k) HS.out;have hcv:=l9.out cs[k] (List.getElem_mem hlt);obtain⟨acc,hacc⟩:∃acc,acc=applyL rs (cs.take k):=⟨_,rfl⟩
     rw[←hacc] at aK hal hstep hsrt;obtain⟨kk,hkk⟩:∃x,x=cs[k].1:=⟨_,rfl⟩
     obtain⟨vv,hvv⟩:∃x,x=cs[k].2.1:=⟨_,rfl⟩
     obtain⟨gg,hgg⟩:∃x,x=cs[k].2.2:=⟨_,rfl⟩
     have cj:cs[k]=(kk,vv,gg):=by rw[hkk,hvv,hgg]
     rw[←hkk] at hx;rw[←hvv] at hr hcv;rw[←hgg] at hz;rw[cj] at hstep;have hx':=(ad.cell (p:=⟨b,off+k*3,none⟩) aj).trans hx;have hy':=(ad.cell (p:=⟨b,off+k*3+1,none⟩) aj).trans hy;have hz':=(ad.cell (p:=⟨b,off+k*3+2,none⟩) aj).trans hz;have eu:=hr.below ad;obtain⟨A1,c1,ah⟩:=rb_shape hr;obtain⟨nv,rG⟩:∃nv,nv=vv.length:=⟨_,rfl⟩
     rw[←rG] at ah;subst ah;obtain⟨Ap,cp,rfl⟩:=or_shape aK;have wM:=ad.size;have b1:Below Wp.heap.size Wp (Wp.alloc (.cells #[.string kk,.slice A1 nv c1,.bool gg] 76)):=(Below.refl _ _).alloc (Nat.le_refl _) _;have i8:=halve_any (.slice Ap acc.length cp) acc kk (Wp.alloc (.cells #[.string kk,.slice A1 nv c1,.bool gg] 76)) (aK.below b1).rr hsrt (by omega);have hpl:=posL_le kk acc;have jV:= @has_lt acc kk;have t7:= @step_out acc kk vv hsrt;have uM:= @step_none acc kk vv hsrt;have sU:= @step_set acc kk vv hsrt;have sO:= @step_ins acc kk vv hsrt;obtain⟨p,hp⟩:∃p,p=posL kk acc:=⟨_,rfl⟩
     obtain⟨hh,yy⟩:∃hh,hh=hasL kk acc:=⟨_,rfl⟩
     rw[←hp] at i8 hpl jV t7 sU sO;rw[←yy] at i8 jV t7 uM sU sO;have HH:=qH i8;have HST:=qH hstep;have HO:=qH (aK.below b1);have HB:=qH (ad.trans (b1.mono wM));have HR:=qH (eu.below b1);have bA:∀i,(Wp.alloc (.cells #[.string kk,.slice A1 nv c1,.bool gg] 76)).cell? ⟨Wp.heap.size,i,none⟩=(#[.string kk,.slice A1 nv c1,.bool gg]:Array Value)[i]? :=fun i=>cell_of_row _ _ i _ 76 (0,0) (World.alloc_heap_new Wp _)
     have hb0:=bA 0;have hb1:=bA 1;have hb2:=bA 2;simp only[List.getElem?_toArray,List.getElem?_cons_zero,List.getElem?_cons_succ] at hb0 hb1 hb2;have xB:(Wp.alloc (.cells #[.string kk,.slice A1 nv c1,.bool gg] 76)).heap.size=Wp.heap.size+1:=World.size_alloc _ _;have q1:(0:Int)≤(k:Int):=by omega
     have q2:(k:Int)<cs.length:=by omega
     clear i8 hstep aK ad eu hr hx hy hz hkk hvv hgg cj hacc rG b1 bA hsrt;go_wp2_with fail
     obtain⟨B,hB⟩:∃B,B=Wp.heap.size:=⟨_,rfl⟩
     rw[←hB] at hb0 hb1 hb2 xB wM⊢;generalize Wp.alloc (.cells #[.string kk,.slice A1 nv c1,.bool gg] 76)=W1 at *;clear hx' hy' hz' hB;refine HH.out.mono ?_;rintro e w3⟨rfl,hb3⟩;have ha0:=(hb3.cell (p:=⟨B,0,none⟩) (by show B<W1.heap.size;omega)).trans hb0;have ha1:=(hb3.cell (p:=⟨B,1,none⟩) (by show B<W1.heap.size;omega)).trans hb1;have ha2:=(hb3.cell (p:=⟨B,2,none⟩) (by show B<W1.heap.size;omega)).trans hb2;have jC:=qH (HO.out.below hb3);have ak:=qH (HB.out.trans (hb3.mono (by omega)));have bO:=qH (HR.out.below hb3);have jg:=ak.out.size;clear hb3 HO HB HR HH hb0 hb1 hb2
     cases gg with
     |true=>
      cases hh with
      |true=>
       have gV:=jV rfl;have hE:=HST.out.trans (t7 rfl);have hD:=delete_any w.heap.size p _ acc w3 jC.out gV;obtain⟨na,vu⟩:∃na,na=acc.take p++acc.drop (p+1):=⟨_,rfl⟩
       rw[←vu] at hE hD;have E:=qH hE;have HD:=qH hD;clear hE hD vu;clear yy hp jV t7 uM sU sO HST;go_wp2_with fail
       refine HD.out.mono ?_;rintro e w4⟨v4,rfl,bH,hb4⟩;obtain⟨A4,c4,rfl⟩:=or_shape bH;have jp:=qH bH;have ai:=qH (ak.out.trans hb4);clear bH hb4 HD;go_wp2;go_roundw
       case rel=>exact⟨k+1,by omega,by go_num,by rw[E.out];exact jp.out,ai.out⟩
       case measure=>simp[intOf];omega
      |false=>
       have E:=qH (HST.out.trans (uM rfl));clear yy hp jV t7 uM sU sO HST;go_wp2;go_roundw
       case rel=>exact⟨k+1,by omega,by go_num,by rw[E.out];exact jC.out,ak.out⟩
       case measure=>simp[intOf];omega
     |false=>
      have rh:=qH (rowB_any kk (.slice A1 nv c1) vv w3 bO.out hcv)
      cases hh with
      |true=>
       have gV:=jV rfl;have E:=qH (HST.out.trans (sU rfl));clear yy hp jV t7 uM sU sO HST;go_wp2_with fail
       refine rh.out.mono ?_;rintro e w4⟨u4,rfl,cP,hb4⟩;obtain⟨A4,c4,rfl⟩:=cP.shape;obtain⟨g,cap,ux,hsh,hgl,dt,hk1,_⟩:=or_row (jC.out.below hb4) gV;injection hsh with e1 _ e3;subst e1;subst e3;have aM:=jC.out.below hb4;have ii:=or_frozen aM (p*2);have eo:=or_frozen aM (p*2+1);have xJ:=cP.base_ (base':=w.heap.size) jg;have im:=or_setR aM (by decide) rfl gV (k:=kk) xJ;have hgb:=or_base aM;have au:=((ak.out.trans (hb4.mono jg)).setCell hgb (p:=⟨g,p*2,none⟩) (.string kk)).setCell hgb (p:=⟨g,p*2+1,none⟩) (.slice A4 vv.length c4);have dK:=qH im;have ax:=qH au;have p1:(0:Int)≤(p:Int):=by omega
       have p2:(p:Int)<acc.length:=by omega
       clear aM im au xJ cP hb4 rh;go_wp2;go_roundw
       case rel=>exact⟨k+1,by omega,by go_num,by rw[E.out];exact dK.out,ax.out⟩
       case measure=>simp[intOf];omega
      |false=>
       have hE:=HST.out.trans (sO rfl);clear yy hp jV t7 uM sU sO HST;go_wp2_with fail
       refine rh.out.mono ?_;rintro e w4⟨u4,rfl,cP,hb4⟩;obtain⟨A4,c4,rfl⟩:=cP.shape;have b5:Below w4.heap.size w4 (w4.alloc (.cells #[.string kk,.slice A4 vv.length c4] 78)):=(Below.refl _ _).alloc (Nat.le_refl _) _;have xJ:=(cP.base_ (base':=w.heap.size) jg).below b5;have aM:=(jC.out.below hb4).below b5;have hbb:=ak.out.trans ((hb4.trans (b5.mono hb4.size)).mono jg);have hins:=insert_any w.heap.size p w4.heap.size _ acc kk _ vv _ aM hpl (by omega) (World.alloc_heap_new w4 _) (fun g hg=>by
        rcases aM with ⟨us,_,ho,_⟩
        have:=(own_below_lt (jC.out.below hb4) g hg)
        omega) xJ hbb.size
       obtain⟨na,vu⟩:∃na,na=acc.take p++(kk,vv)::acc.drop p:=⟨_,rfl⟩
       rw[←vu] at hE hins;have E:=qH hE;have HI:=qH hins;clear hE vu;have b7:=qH hbb;clear xJ aM hins hbb cP hb4 b5 rh;go_wp2_with fail
       refine HI.out.mono ?_;rintro e w5⟨v5,rfl,aI,au⟩;obtain⟨A5,c5,rfl⟩:=or_shape aI;have dK:=qH aI;have ax:=qH (b7.out.trans au);clear aI au HI;go_wp2;go_roundw
       case rel=>exact⟨k+1,by omega,by go_num,by rw[E.out];exact dK.out,ax.out⟩
       case measure=>simp[intOf];omega
    ·obtain rfl:k=cs.length:=by omega
     rw[List.take_length] at aK;obtain⟨Ap,cp,rfl⟩:=or_shape aK;have jC:=qH aK;have ak:=qH ad;clear aK ad;go_wp2;go_ret;exact⟨_,rfl,jC.out,ak.out⟩
end Go.Proofs.YtmbkaedhllfoeaaGreat
