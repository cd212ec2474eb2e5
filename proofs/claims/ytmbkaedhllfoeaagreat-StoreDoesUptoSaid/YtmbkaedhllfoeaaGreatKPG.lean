/-
  Texts of the proof, put together.
-/
import Derived.Test.YtmbkaedhllfoeaaGreatKPC
import Derived.Test.YtmbkaedhllfoeaaGreatKPF
import Derived.Test.YtmbkaedhllfoeaaGreatKPWr
set_option maxRecDepth 100000
set_option maxHeartbeats 4000000
set_option linter.unusedVariables false
namespace Go.Proofs.YtmbkaedhllfoeaaGreat
open Go.RowKit Go.Rst
theorem own_blk{w:World}{base g n:Nat}{e:TypeId}{xs ys:List Value}(h:w.ownsRow base e 1 (.slice (some ⟨g,0,none⟩) n n) n xs)(hx:xs=ys):Blk w g e ys.toArray:=by
 subst hx;rcases h.2 with ⟨h0,_⟩|⟨g',cap,cur,hv,_,hg,_,_,hs,ht⟩
 ·cases h0
 ·injection hv with h1 _ h3
  injection h1 with h1;injection h1 with h1 _ _;subst h1;subst h3;have:cur.toList=xs:=by rw[←ht,List.take_of_length_le (by rw[Array.length_toList];omega)]
  unfold Blk;rw[hg,←this]
theorem fb_blk{w:World}{base g n:Nat}{e:TypeId}{l:List UInt8}(h:Blk w g e (bvs l).toArray)(hn:l.length=n)(hb:base≤g)(hm:n≤maxLen):FB e w base (.slice (some ⟨g,0,none⟩) n n) l:=by
 subst hn;exact .inr ⟨g,l.length,_,(0,0),rfl,hb,h,Nat.le_refl _,hm,by rw[List.take_of_length_le (by simp[bvs_length])]⟩
theorem fb_lit{w:World}{base:Nat}{e:TypeId}{l:List UInt8}{cs:Array Value}{n:Nat}(hb:base≤w.heap.size)(hcs:cs=(bvs l).toArray)(hn:n=l.length)(hm:n≤1000000):
  FB e (w.alloc (.cells cs e)) base (.slice (some ⟨w.heap.size,0,none⟩) n n) l:=by
 subst hcs;subst hn;exact .inr ⟨w.heap.size,l.length,_,(0,0),rfl,hb,heap_alloc_new w _,Nat.le_refl _,by unfold maxLen;omega,by rw[List.take_of_length_le (by simp[bvs_length])]⟩
theorem gen_allocD{K:World→Prop}{W:World}{o:Obj}(h:∀w',w'=(W.alloc o).drew→Below W.heap.size W w'→K w'):K (W.alloc o).drew:=h _ rfl ((Below.refl _ _).alloc (Nat.le_refl _) _).drew
theorem FB.drew{e:TypeId}{w:World}{base:Nat}{v:Value}{l:List UInt8}(h:FB e w base v l):FB e w.drew base v l:=h
theorem gen_alloc{K:World→Prop}{W:World}{o:Obj}(h:∀w',w'=W.alloc o→Below W.heap.size W w'→K w'):K (W.alloc o):=h _ rfl ((Below.refl _ _).alloc (Nat.le_refl _) _)
theorem madeL(n:Nat):(madeCells #[Value.int IntKind.u8 0] n).toList=bvs (List.replicate n 0):=by
 rw[toList_madeCells_one];simp[bvs,bv]
theorem bvs_set'(l:List UInt8)(k:Nat)(c:UInt8):(bvs l).toArray.setIfInBounds k (bv c)=(bvs (l.set k c)).toArray:=by
 simp[bvs,List.map_set]
def fill(y:UInt8)(m:Nat):List UInt8:=(List.range m).map fun j=>y+UInt8.ofNat j
def fillk(y:UInt8)(m q:Nat):List UInt8:=(List.range m).map fun j=>if j<q then y+UInt8.ofNat j else 0
theorem fill_length(y:UInt8)(m:Nat):(fill y m).length=m:=by simp[fill]
theorem fillk_length(y:UInt8)(m q:Nat):(fillk y m q).length=m:=by simp[fillk]
theorem fillk_zero(y:UInt8)(m:Nat):fillk y m 0=List.replicate m 0:=by
 apply List.ext_getElem
 ·simp[fillk]
 ·intro i h1 h2;simp[fillk]
theorem fillk_full(y:UInt8)(m:Nat):fillk y m m=fill y m:=by
 unfold fillk fill;apply List.map_congr_left;intro j hj;rw[if_pos (List.mem_range.1 hj)]
theorem fillk_set(y:UInt8)(m q:Nat)(_h:q<m):(fillk y m q).set q (y+UInt8.ofNat q)=fillk y m (q+1):=by
 apply List.ext_getElem
 ·simp[fillk]
 ·intro i h1 h2
  rw[List.getElem_set];by_cases e:q=i
  ·subst e;simp[fillk]
  ·rw[if_neg e]
   simp only[fillk,List.getElem_map,List.getElem_range];by_cases hik:i<q
   ·rw[if_pos hik,if_pos (by omega)]
   ·rw[if_neg hik,if_neg (by omega)]
def rlen(x y:UInt8):Nat:=if 230<x.toNat then 100+y.toNat%50 else y.toNat%40
def rowOf(x y:UInt8):ByteArray×List UInt8:=(⟨#[97+x%16,97+x/16%4]⟩,fill y (rlen x y))
def rowsAt(l:List UInt8)(k:Nat):List (ByteArray×List UInt8):=(List.range k).map fun j=>rowOf (l.getD (2*j) 0) (l.getD (2*j+1) 0)
def nrows(l:List UInt8)(n:Nat):Nat:=min n (l.length/2)
theorem rowsAt_succ(l:List UInt8)(k:Nat):rowsAt l (k+1)=rowsAt l k++ [rowOf (l.getD (2*k) 0) (l.getD (2*k+1) 0)]:=by simp[rowsAt,List.range_succ]
theorem key_cells(x:UInt8):#[Value.int .u8 (IntKind.u8.wrap (97+(x.toNat:Int).tmod 16)),.int .u8 (IntKind.u8.wrap (97+(IntKind.u8.wrap ((x.toNat:Int)/16)).tmod 4))]=(bvs [97+x%16,97+x/16%4]).toArray:=by
 have e1:(97+x%16).toNat=97+x.toNat%16:=by simp[UInt8.toNat_add,UInt8.toNat_mod];omega
 have e2:(97+x/16%4).toNat=97+x.toNat/16%4:=by simp[UInt8.toNat_add,UInt8.toNat_mod,UInt8.toNat_div];omega
 have hx:=x.toNat_lt;have e3:IntKind.u8.wrap (97+(x.toNat:Int).tmod 16)=((97+x.toNat%16:Nat):Int):=by
  rw[IntKind.wrap_u8,Int.tmod_eq_emod_of_nonneg (by omega)];omega
 have e4:IntKind.u8.wrap (97+(IntKind.u8.wrap ((x.toNat:Int)/16)).tmod 4)=((97+x.toNat/16%4:Nat):Int):=by
  rw[IntKind.wrap_u8,IntKind.wrap_u8,Int.tmod_eq_emod_of_nonneg (by omega)];omega
 unfold bvs bv;simp only[List.map_cons,List.map_nil,e1,e2,e3,e4]
theorem add_byte(y:UInt8)(q:Nat)(_h:q<256):((y.toNat:Int)+(q:Int))%256=((y+UInt8.ofNat q).toNat:Int):=by
 rw[UInt8.toNat_add,UInt8.toNat_ofNat'];omega
def GivesRL(w:World)(rs:List (ByteArray×List UInt8))(e:Ending)(w':World):Prop:=∃u,e= .returned u∧OR 5 78 w' w.heap.size u rs∧Below w.heap.size w w'
theorem GivesRL.mk{w w':World}{rs:List (ByteArray×List UInt8)}{u:Value}(h:OR 5 78 w' w.heap.size u rs)(hb:Below w.heap.size w w'):GivesRL w rs (.returned u) w':=⟨u,rfl,h,hb⟩
theorem rowList_any(v:Value)(l:List UInt8)(n:Nat)(hn:n≤100)(w:World)(hv:RB w v l)(_hl:l.length≤140737488351232):
  Calls Tryz.prog 61 #[v,.int .i64 n] w (GivesRL w (rowsAt l (nrows l n))):=by
 have HV:=qH hv;obtain⟨A,c,rfl,h1,h2,_⟩:=hv;simp only[maxLen] at h2;obtain⟨i5,hi5,jv,hs5,au⟩:=info_parts info5;have kS:=qH hi5;have lA:=qH jv;have iF:=qH hs5;have ax:=qH au;clear hi5 jv hs5 au;obtain⟨N,hN⟩:∃N,N=nrows l n:=⟨_,rfl⟩
 have Lp:N≤n:=by rw[hN];unfold nrows;omega
 have K9:2*N≤l.length:=by rw[hN];unfold nrows;omega
 have Lq:n≤N∨l.length≤2*N+1:=by rw[hN];unfold nrows;omega
 have HN:=qH hN.symm;clear hN;go_enter Tryz.func61,Tryz.ntmps61;go_wp2
 go_loopw [5,6] (fun o i wr=>∃k:Nat,k≤N∧i= .int .i64 (2*(k:Int))∧OR 5 78 wr w.heap.size o (rowsAt l k)∧Below w.heap.size w wr) (fun _ i _=>2*N+2-(intOf i).toNat)
 case atStart=>exact⟨0,Nat.zero_le _,rfl,OR.nil_ _ _ _ _,Below.refl _ _⟩
 case round=>
  obtain⟨k,hk,rfl,aK,ad⟩:=hrel;obtain⟨Wo,iq⟩:∃x,x=wr:=⟨_,rfl⟩
  subst iq;by_cases hlt:k<N
  ·obtain⟨b,off,rfl,hb,hc0⟩:=rb_cell HV.out (k:=2*k) (by omega)
   have hc1:w.cell? ⟨b,off+(2*k+1),none⟩=some (bv l[2*k+1]):=by
    obtain⟨b',off',he,_,h⟩:=rb_cell HV.out (k:=2*k+1) (by omega);injection he with he;injection he with e1 e2 _;subst e1;subst e2;exact h
   obtain⟨x,hx⟩:∃x,x=l[2*k]'(by omega):=⟨_,rfl⟩
   obtain⟨y,hy⟩:∃y,y=l[2*k+1]'(by omega):=⟨_,rfl⟩
   have hx':l.getD (2*k) 0=x:=by rw[hx];simp[List.getElem?_eq_getElem (show 2*k<l.length by omega)]
   have hy':l.getD (2*k+1) 0=y:=by rw[hy];simp[List.getElem?_eq_getElem (show 2*k+1<l.length by omega)]
   rw[←hx] at hc0;rw[←hy] at hc1;unfold bv at hc0 hc1;have hxl:=x.toNat_lt;have Lc:=y.toNat_lt;have k0:=(ad.cell (p:=⟨b,off+2*k,none⟩) hb).trans hc0;have k1:=(ad.cell (p:=⟨b,off+(2*k+1),none⟩) hb).trans hc1;obtain⟨us,ah,ho,bC⟩:=aK;have Ca:us.length=k:=by have:=congrArg List.length ah;simpa [rowsAt] using this
   have Fq:us.length≤100:=by omega
   clear Ca;obtain⟨m,hm⟩:∃m,m=rlen x y:=⟨_,rfl⟩
   have Gk:m≤150:=by rw[hm];unfold rlen;split <;>omega
   have j4:=qH (show rowOf (l.getD (2*k) 0) (l.getD (2*k+1) 0)=(⟨#[97+x%16,97+x/16%4]⟩,fill y m) by rw[hx',hy',hm];rfl);have ce:=qH ah;have HO:=qH ho;have HF:=qH bC;have HB:=qH ad;obtain⟨A6,c6,dG,_⟩:=own_shape ho;subst dG;have mT:=qH hc0;have pN:=qH hc1;clear hx hy hx' hy' ah ho bC ad hc0 hc1;by_cases h230:230<x.toNat
   ·have hm2:m=100+y.toNat%50:=by rw[hm];unfold rlen;rw[if_pos h230]
    clear hm;have hme:(100:Int)+(y.toNat:Int)%50=(m:Int):=by omega
    have sF:=qH hme;clear hme hm2;go_wp2_with (first
     |(refine wpList_make_full _ rfl (.tmp 28) (.tmp 28) 46 rfl 0 5 i5 (.int .u8 0) 1 Tryz.underlying46 kS.out lA.out iF.out .i64 .i64 ((y.toNat:Int)%40) ((y.toNat:Int)%40) (y.toNat%40) rfl rfl (by omega) (by omega) (by rw[ax.out];omega) (by unfold maxLen;omega) (Nat.zero_le _) ?_))
    intro w1 hown1 hgrow1;have rK:Below Wo.heap.size Wo w1:=(Below.refl _ _).grown hgrow1 (Nat.le_refl _) (fun z hz=>by cases hz);have FI:=((HB.out.trans (rK.mono HB.out.size)).cell (p:=⟨b,off+2*k,none⟩) hb).trans mT.out;have JT:=((HB.out.trans (rK.mono HB.out.size)).cell (p:=⟨b,off+(2*k+1),none⟩) hb).trans pN.out;have Bc:=qH rK;clear hown1 hgrow1 rK;go_wp2_with (first
     |(refine wpList_make_full _ rfl (.tmp 42) (.tmp 42) 46 rfl 0 5 i5 (.int .u8 0) 1 Tryz.underlying46 kS.out lA.out iF.out .i64 .i64 (100+(y.toNat:Int)%50) (100+(y.toNat:Int)%50) m rfl rfl sF.out sF.out (by rw[ax.out];omega) (by unfold maxLen;omega) (Nat.zero_le _) ?_))
    intro w2 hown2 hgrow2;have hblk:=own_blk (ys:=bvs (List.replicate m 0)) hown2 (madeL m);obtain⟨g,hg⟩:∃g,g=w1.heap.size:=⟨_,rfl⟩
    rw[←hg] at hblk⊢;have qU:Wo.heap.size≤g:=by rw[hg];exact Bc.out.size
    have HK:=qH hblk;have aw:=qH (Bc.out.trans (((Below.refl _ _).grown hgrow2 (Nat.le_refl _) (fun z hz=>by cases hz)).mono Bc.out.size));have hc1:=pN.out;have hc0:=mT.out;clear hown2 hgrow2 hblk hg k0 k1 FI JT Bc sF;go_wp2
    go_loopw [8] (fun i wr=>∃q:Nat,q≤m∧i= .int .i64 q∧Blk wr g 5 (bvs (fillk y m q)).toArray∧Below Wo.heap.size Wo wr) (fun i _=>m-(intOf i).toNat)
    case atStart=>exact⟨0,Nat.zero_le _,rfl,by rw[fillk_zero];exact HK.out,aw.out⟩
    case round=>
     clear HK aw;obtain⟨q,hq,rfl,hblk,hbW⟩:=hrel;by_cases hqm:q<m
     ·have hcell:=(hblk.cell q).trans (show(bvs (fillk y m q)).toArray[q]? =some _ by rw[List.getElem?_toArray,bvs_get (by rw[fillk_length];exact hqm)])
      have ay:=hblk.frozen q;have JC:=((HB.out.trans (hbW.mono HB.out.size)).cell (p:=⟨b,off+(2*k+1),none⟩) hb).trans hc1;have bQ:=fillk_set y m q hqm;have gU:=bvs_set' (fillk y m q) q (y+UInt8.ofNat q);rw[bQ] at gU;have gh:=qH gU;have az:=qH hblk;have nG:=qH hbW;have HAD:=qH (add_byte y q (by omega));unfold bv at hcell;clear bQ gU hblk hbW;go_wp2;go_roundw
      case rel=>exact⟨q+1,by omega,by go_num,by rw[←gh.out];rw[HAD.out];exact az.out.set_ q _,nG.out.setCell (by exact qU) _⟩
      case measure=>simp[intOf];omega
     ·have vp:q=m:=by omega
      rw[vp,fillk_full] at hblk;have lP:=qH (HB.out.trans (hbW.mono HB.out.size));have tl:FB 5 wr w.heap.size (.slice (some ⟨g,0,none⟩) m m) (fill y m):=fb_blk hblk (fill_length y m) (Nat.le_trans HB.out.size qU) (by unfold maxLen;omega);have BR:=qH tl;have ES:=qH (own_below HO.out hbW);have ly:=qH (fun z hz=>(HF.out z hz).below hbW);have nG:=qH hbW;have b1:(0:Int)≤2*(k:Int):=by omega
      have b2:2*(k:Int)<(l.length:Int):=by omega
      have htn:(2*(k:Int)).toNat=2*k:=by omega
      clear tl hblk hbW vp;go_wp2;refine wp_region_held_drew (S:=fun X=>Below w.heap.size w X) (by kernel_rfl) lP.out.drew (fun hHeld=>?_);refine tkC 0 ?_;refine tkC 1 ?_;refine tkC 2 ?_;refine tkC 3 ?_;refine tkA 4 (v:=?_) ?_ ?_;rotate_left
      ·intro X hSw;have hq:=(hSw.cell (p:=⟨b,off+2*k,none⟩) hb).trans hc0;go_simp;try (with_reducible rfl)
      try simp only[Act.put,zA,zB,zC]
      refine tkC 5 ?_;refine tkC 6 ?_;refine tkC 7 ?_;refine tkC 8 ?_;refine tkC 9 ?_;refine tkA 10 (v:=?_) ?_ ?_;rotate_left
      ·intro X hSw;have hq:=(hSw.cell (p:=⟨b,off+2*k,none⟩) hb).trans hc0;go_simp;try (with_reducible rfl)
      try simp only[Act.put,zA,zB,zC]
      refine tkC 11 ?_;refine tkC 12 ?_;refine tkC 13 ?_;refine tkC 16 ?_;refine rdA (rs:= [14]) ?_;refine arC (fun K hK=>?_);go_simp;refine gen_allocD ?_;intro w1 hw1 bJ;refine hK.out _ _ ?_ (fun _=>?_)
      ·exact lP.out.trans (bJ.mono lP.out.size)
      clear hK K;try simp only[Act.put,zA,zB,zC]
      have mE:FB 5 w1 w.heap.size (.slice (some ⟨wr.heap.size,0,none⟩) 2 2) [97+x%16,97+x/16%4]:=by rw[hw1];exact FB.drew (fb_lit (e:=5) (base:=w.heap.size) lP.out.size (key_cells x) rfl (by decide))
      have hHeld:Below w.heap.size w w1∧FB 5 w1 w.heap.size (.slice (some ⟨wr.heap.size,0,none⟩) 2 2) [97+x%16,97+x/16%4]:=⟨lP.out.trans (bJ.mono lP.out.size),mE⟩
      have tG:=own_below ES.out bJ;refine wpAnyH_more (S':=fun X=>Below w.heap.size w X∧FB 5 X w.heap.size (.slice (some ⟨wr.heap.size,0,none⟩) 2 2) [97+x%16,97+x/16%4]) (fun _ h=>h.1) _ _ _ _ ?_;clear mE hw1;refine tkA 15 (v:=?_) ?_ ?_;rotate_left
      ·intro X hSw;have hq:=str22 hSw.2.rb;go_simp;try (with_reducible rfl)
      try simp only[Act.put,zA,zB,zC]
      refine tkC 17 ?_;refine rdA (rs:= [18]) ?_;refine arC (fun K hK=>?_);go_simp;refine gen_alloc ?_;intro w2 hw2 bg;refine hK.out _ _ ?_ (fun _=>?_)
      ·exact⟨hHeld.1.trans (bg.mono hHeld.1.size),hHeld.2.below bg⟩
      clear hK K;try simp only[Act.put,zA,zB,zC]
      have hHeld:Below w.heap.size w w2∧FB 5 w2 w.heap.size (.slice (some ⟨wr.heap.size,0,none⟩) 2 2) [97+x%16,97+x/16%4]:=⟨hHeld.1.trans (bg.mono hHeld.1.size),hHeld.2.below bg⟩
      have gD:=own_below tG bg;have hsrc:Src Tryz.prog 2 40 (.slice (some ⟨w1.heap.size,0,none⟩) 1 1) 1 [.string ⟨#[97+x%16,97+x/16%4]⟩,.slice (some ⟨g,0,none⟩) m m] w2:=by rw[hw2];exact src_two _ rfl Tryz.underlying40 78 _ _ rfl rfl
      have cD:=qH hsrc;clear hsrc hw2;refine rdA (rs:= [19]) ?_;refine arC (fun K hK=>?_);refine step_own (by rfl) (.tmp 61) (.tmp 79) 40 40 (by rfl) w.heap.size 78 (.agg #[.string ⟨#[]⟩,.slice none 0 0]) 2 40 Tryz.underlying40 info78 rfl (by rfl) gD (by rfl) cD.out hHeld.1 (Nat.le_refl _) (by unfold maxLen;omega) (by omega) hHeld.1.size ?_;intro v5 w3 am aA hg3;refine hK.out _ _ ?_ (fun _=>?_)
      ·exact⟨aA,FB.grown hHeld.2 gD (by decide) hg3⟩
      clear hK K;try simp only[Act.put,zA,zB,zC]
      have hHeld:Below w.heap.size w w3∧FB 5 w3 w.heap.size (.slice (some ⟨wr.heap.size,0,none⟩) 2 2) [97+x%16,97+x/16%4]:=⟨aA,FB.grown hHeld.2 gD (by decide) hg3⟩
      have ct:=OR.push (by decide) gD (fun y hy=>((ly.out y hy).below bJ).below bg) ((BR.out.below bJ).below bg) am hg3;refine tkC 20 ?_;refine wpAnyH_done (by kernel_rfl) ?_ _;go_wp2;go_roundw
      case rel=>exact⟨k+1,by omega,by go_num,by rw[rowsAt_succ,j4.out,←ce.out];exact ct,aA⟩
      case measure=>simp[intOf];omega
   ·have hm2:m=y.toNat%40:=by rw[hm];unfold rlen;rw[if_neg h230]
    clear hm;have hme:(y.toNat:Int)%40=(m:Int):=by omega
    have sF:=qH hme;clear hme hm2;go_wp2_with (first
     |(refine wpList_make_full _ rfl (.tmp 28) (.tmp 28) 46 rfl 0 5 i5 (.int .u8 0) 1 Tryz.underlying46 kS.out lA.out iF.out .i64 .i64 ((y.toNat:Int)%40) ((y.toNat:Int)%40) m rfl rfl sF.out sF.out (by rw[ax.out];omega) (by unfold maxLen;omega) (Nat.zero_le _) ?_))
    intro w2 hown2 hgrow2;have rK:Below Wo.heap.size Wo w2:=(Below.refl _ _).grown hgrow2 (Nat.le_refl _) (fun z hz=>by cases hz);have FI:=((HB.out.trans (rK.mono HB.out.size)).cell (p:=⟨b,off+2*k,none⟩) hb).trans mT.out;have hblk:=own_blk (ys:=bvs (List.replicate m 0)) hown2 (madeL m);obtain⟨g,hg⟩:∃g,g=Wo.heap.size:=⟨_,rfl⟩
    rw[←hg] at hblk⊢;have qU:Wo.heap.size≤g:=by rw[hg];exact Nat.le_refl _
    have HK:=qH hblk;have aw:=qH rK;have hc1:=pN.out;have hc0:=mT.out;clear hown2 hgrow2 hblk hg k0 k1 sF rK;go_wp2
    go_loopw [8] (fun i wr=>∃q:Nat,q≤m∧i= .int .i64 q∧Blk wr g 5 (bvs (fillk y m q)).toArray∧Below Wo.heap.size Wo wr) (fun i _=>m-(intOf i).toNat)
    case atStart=>exact⟨0,Nat.zero_le _,rfl,by rw[fillk_zero];exact HK.out,aw.out⟩
    case round=>
     clear HK aw;obtain⟨q,hq,rfl,hblk,hbW⟩:=hrel;by_cases hqm:q<m
     ·have hcell:=(hblk.cell q).trans (show(bvs (fillk y m q)).toArray[q]? =some _ by rw[List.getElem?_toArray,bvs_get (by rw[fillk_length];exact hqm)])
      have ay:=hblk.frozen q;have JC:=((HB.out.trans (hbW.mono HB.out.size)).cell (p:=⟨b,off+(2*k+1),none⟩) hb).trans hc1;have bQ:=fillk_set y m q hqm;have gU:=bvs_set' (fillk y m q) q (y+UInt8.ofNat q);rw[bQ] at gU;have gh:=qH gU;have az:=qH hblk;have nG:=qH hbW;have HAD:=qH (add_byte y q (by omega));unfold bv at hcell;clear bQ gU hblk hbW;go_wp2;go_roundw
      case rel=>exact⟨q+1,by omega,by go_num,by rw[←gh.out];rw[HAD.out];exact az.out.set_ q _,nG.out.setCell (by exact qU) _⟩
      case measure=>simp[intOf];omega
     ·have vp:q=m:=by omega
      rw[vp,fillk_full] at hblk;have lP:=qH (HB.out.trans (hbW.mono HB.out.size));have tl:FB 5 wr w.heap.size (.slice (some ⟨g,0,none⟩) m m) (fill y m):=fb_blk hblk (fill_length y m) (Nat.le_trans HB.out.size qU) (by unfold maxLen;omega);have BR:=qH tl;have ES:=qH (own_below HO.out hbW);have ly:=qH (fun z hz=>(HF.out z hz).below hbW);have nG:=qH hbW;have b1:(0:Int)≤2*(k:Int):=by omega
      have b2:2*(k:Int)<(l.length:Int):=by omega
      have htn:(2*(k:Int)).toNat=2*k:=by omega
      clear tl hblk hbW vp;go_wp2;refine wp_region_held_drew (S:=fun X=>Below w.heap.size w X) (by kernel_rfl) lP.out.drew (fun hHeld=>?_);refine tkC 0 ?_;refine tkC 1 ?_;refine tkC 2 ?_;refine tkC 3 ?_;refine tkA 4 (v:=?_) ?_ ?_;rotate_left
      ·intro X hSw;have hq:=(hSw.cell (p:=⟨b,off+2*k,none⟩) hb).trans hc0;go_simp;try (with_reducible rfl)
      try simp only[Act.put,zA,zB,zC]
      refine tkC 5 ?_;refine tkC 6 ?_;refine tkC 7 ?_;refine tkC 8 ?_;refine tkC 9 ?_;refine tkA 10 (v:=?_) ?_ ?_;rotate_left
      ·intro X hSw;have hq:=(hSw.cell (p:=⟨b,off+2*k,none⟩) hb).trans hc0;go_simp;try (with_reducible rfl)
      try simp only[Act.put,zA,zB,zC]
      refine tkC 11 ?_;refine tkC 12 ?_;refine tkC 13 ?_;refine tkC 16 ?_;refine rdA (rs:= [14]) ?_;refine arC (fun K hK=>?_);go_simp;refine gen_allocD ?_;intro w1 hw1 bJ;refine hK.out _ _ ?_ (fun _=>?_)
      ·exact lP.out.trans (bJ.mono lP.out.size)
      clear hK K;try simp only[Act.put,zA,zB,zC]
      have mE:FB 5 w1 w.heap.size (.slice (some ⟨wr.heap.size,0,none⟩) 2 2) [97+x%16,97+x/16%4]:=by rw[hw1];exact FB.drew (fb_lit (e:=5) (base:=w.heap.size) lP.out.size (key_cells x) rfl (by decide))
      have hHeld:Below w.heap.size w w1∧FB 5 w1 w.heap.size (.slice (some ⟨wr.heap.size,0,none⟩) 2 2) [97+x%16,97+x/16%4]:=⟨lP.out.trans (bJ.mono lP.out.size),mE⟩
      have tG:=own_below ES.out bJ;refine wpAnyH_more (S':=fun X=>Below w.heap.size w X∧FB 5 X w.heap.size (.slice (some ⟨wr.heap.size,0,none⟩) 2 2) [97+x%16,97+x/16%4]) (fun _ h=>h.1) _ _ _ _ ?_;clear mE hw1;refine tkA 15 (v:=?_) ?_ ?_;rotate_left
      ·intro X hSw;have hq:=str22 hSw.2.rb;go_simp;try (with_reducible rfl)
      try simp only[Act.put,zA,zB,zC]
      refine tkC 17 ?_;refine rdA (rs:= [18]) ?_;refine arC (fun K hK=>?_);go_simp;refine gen_alloc ?_;intro w2 hw2 bg;refine hK.out _ _ ?_ (fun _=>?_)
      ·exact⟨hHeld.1.trans (bg.mono hHeld.1.size),hHeld.2.below bg⟩
      clear hK K;try simp only[Act.put,zA,zB,zC]
      have hHeld:Below w.heap.size w w2∧FB 5 w2 w.heap.size (.slice (some ⟨wr.heap.size,0,none⟩) 2 2) [97+x%16,97+x/16%4]:=⟨hHeld.1.trans (bg.mono hHeld.1.size),hHeld.2.below bg⟩
      have gD:=own_below tG bg;have hsrc:Src Tryz.prog 2 40 (.slice (some ⟨w1.heap.size,0,none⟩) 1 1) 1 [.string ⟨#[97+x%16,97+x/16%4]⟩,.slice (some ⟨g,0,none⟩) m m] w2:=by rw[hw2];exact src_two _ rfl Tryz.underlying40 78 _ _ rfl rfl
      have cD:=qH hsrc;clear hsrc hw2;refine rdA (rs:= [19]) ?_;refine arC (fun K hK=>?_);refine step_own (by rfl) (.tmp 61) (.tmp 79) 40 40 (by rfl) w.heap.size 78 (.agg #[.string ⟨#[]⟩,.slice none 0 0]) 2 40 Tryz.underlying40 info78 rfl (by rfl) gD (by rfl) cD.out hHeld.1 (Nat.le_refl _) (by unfold maxLen;omega) (by omega) hHeld.1.size ?_;intro v5 w3 am aA hg3;refine hK.out _ _ ?_ (fun _=>?_)
      ·exact⟨aA,FB.grown hHeld.2 gD (by decide) hg3⟩
      clear hK K;try simp only[Act.put,zA,zB,zC]
      have hHeld:Below w.heap.size w w3∧FB 5 w3 w.heap.size (.slice (some ⟨wr.heap.size,0,none⟩) 2 2) [97+x%16,97+x/16%4]:=⟨aA,FB.grown hHeld.2 gD (by decide) hg3⟩
      have ct:=OR.push (by decide) gD (fun y hy=>((ly.out y hy).below bJ).below bg) ((BR.out.below bJ).below bg) am hg3;refine tkC 20 ?_;refine wpAnyH_done (by kernel_rfl) ?_ _;go_wp2;go_roundw
      case rel=>exact⟨k+1,by omega,by go_num,by rw[rowsAt_succ,j4.out,←ce.out];exact ct,aA⟩
      case measure=>simp[intOf];omega
  ·have GG:k=N:=by omega
   have hd:(2*(k:Int)+1<(l.length:Int)∧2*(k:Int)<2*(n:Int))↔False:=by
    constructor
    ·intro h;omega
    ·intro h;exact h.elim
   have ik:=qH GG;have da:=qH aK;have HB:=qH ad;clear GG aK ad hd;by_cases h3:2*(k:Int)+1<(l.length:Int)
   ·have h4:¬2*(k:Int)<2*(n:Int):=by omega
    go_wp2;go_ret;rw[HN.out];rw[ik.out] at da;exact GivesRL.mk da.out HB.out
   ·go_wp2
    go_ret;rw[HN.out];rw[ik.out] at da;exact GivesRL.mk da.out HB.out
open Go.RowKit Go.Rst Go.Pg Go.Crc
def GivesSl(w:World)(r:Option (List Rw))(e:Ending)(w':World):Prop:=
 ∃v,e= .returned (.tuple #[v,.bool r.isSome])∧OR 5 78 w' w.heap.size v (r.getD [])∧Below w.heap.size w w'
theorem GivesSl.none_{w w':World}{r:Option (List Rw)}(h:r=none)(hb:Below w.heap.size w w'):GivesSl w r (.returned (.tuple #[.slice none 0 0,.bool false])) w':=by
 subst h;exact⟨_,rfl,OR.nil_ _ _ _ _,hb⟩
theorem GivesSl.some_{w w':World}{r:Option (List Rw)}{rs:List Rw}{v:Value}(h:r=some rs)(ho:OR 5 78 w' w.heap.size v rs)(hb:Below w.heap.size w w'):GivesSl w r (.returned (.tuple #[v,.bool true])) w':=by
 subst h;exact⟨_,rfl,ho,hb⟩
theorem slotsF_step(b:List UInt8){f n k:Nat}(h:f=n-k)(hk:k<n)(acc:List Rw):slotsF b f k acc=match slotRow b (b.getD (2+k) 0).toNat with
  |none=>none
  |some r=>slotsF b (n-(k+1)) (k+1) (acc++ [r]):=by
 rw[h,show n-k=(n-(k+1))+1 from by omega,slotsF];rfl
theorem slotted_any(v:Value)(l:List UInt8)(hl:l.length=256)(w:World)(hv:RB w v l):
  Calls Tryz.prog 122 #[v] w (GivesSl w (slotted l)):=by
 have HV:=qH hv;obtain⟨A,c,rfl,hlc,hc,_⟩:=hv;unfold maxLen at hc;obtain⟨b,off,rfl,hb,hc1⟩:=rb_cell HV.out (k:=1) (by omega);have hR:slotted l=if 250<(l.getD 1 0).toNat then none else slotsF l (l.getD 1 0).toNat 0 []:=rfl
 have hg1:l.getD 1 0=l[1]'(by omega):=by rw[List.getD_eq_getElem?_getD,List.getElem?_eq_getElem (by omega)];rfl
 rw[hg1] at hR;obtain⟨x1,hx1⟩:∃x1,x1=l[1]'(by omega):=⟨_,rfl⟩
 rw[←hx1] at hR hc1;unfold bv at hc1;have sz:=x1.toNat_lt;obtain⟨n,hn⟩:∃n,n=x1.toNat:=⟨_,rfl⟩
 rw[←hn] at hR hc1 sz;have hcap:(256:Int)≤(c:Int):=by omega
 have Er:(l.length:Int)=256:=by omega
 have HL:=qH hl;clear hx1 hn hg1 hl;by_cases hbig:250<n
 ·rw[if_pos hbig] at hR
  have HR:=qH hR;have cA:(250:Int)<(n:Int):=by omega
  clear hR;go_enter Tryz.func122,Tryz.ntmps122;go_wp2
  go_ret2
  exact GivesSl.none_ HR.out (Below.refl _ _)
 ·rw[if_neg hbig] at hR
  have HR:=qH hR;have cA:(n:Int)≤250:=by omega
  obtain⟨D,hD⟩:∃D,D=c-2:=⟨_,rfl⟩
  have hDn:n≤D:=by omega
  have Hw:c=D+2:=by omega
  subst Hw;clear hR hD;go_enter Tryz.func122,Tryz.ntmps122;go_wp2;rw[Nat.add_sub_cancel_left]
  go_loopw [5,24] (fun rv i wr=>∃(k:Nat) (acc:List Rw),k≤n∧i= .int .i64 k∧acc.length=k∧OR 5 78 wr w.heap.size rv acc∧Below w.heap.size w wr∧slotsF l (n-k) k acc=slotsF l n 0 [])
   (fun _ i _=>n-(intOf i).toNat)
  case atStart=>exact⟨0,[],Nat.zero_le _,rfl,rfl,OR.nil_ _ _ _ _,Below.refl _ _,rfl⟩
  case round=>
   obtain⟨k,acc,hk,rfl,hal,aK,ad,heq⟩:=hrel;have HE:=qH heq;have ir:=qH hal;have hsz:=ad.size;clear heq hal;by_cases hlt:k<n
   ·have hE:=HE.out
    rw[slotsF_step l rfl hlt] at hE;obtain⟨_,_,gl,_,hs⟩:=rb_cell HV.out (k:=2+k) (by have:=HL.out;omega);injection gl with gl;injection gl with e1 e2 _;subst e1;subst e2;have hg2:l.getD (2+k) 0=l[2+k]'(by have:=HL.out;omega):=by rw[List.getD_eq_getElem?_getD,List.getElem?_eq_getElem (by have:=HL.out;omega)];rfl
    rw[hg2] at hE;obtain⟨x,hx⟩:∃x,x=l[2+k]'(by have:=HL.out;omega):=⟨_,rfl⟩
    rw[←hx] at hE hs;unfold bv at hs;have sQ:=x.toNat_lt;obtain⟨s,hs1⟩:∃s,s=x.toNat:=⟨_,rfl⟩
    rw[←hs1] at hE hs sQ;have hs2:=(ad.cell (p:=⟨b,off+(2+k),none⟩) hb).trans hs;rw[show off+(2+k)=off+2+k from by omega] at hs2;unfold slotRow at hE;have c1:=fun W hW=>getText_any (.slice (some ⟨b,off,none⟩) l.length (D+2)) l (s:Int) 30 W hW
    have s1:=getText_spec l (s:Int) 30;obtain⟨tk,q1,e1,ht1⟩:∃a b c,getText l (s:Int) 30=(a,b,c):=⟨_,_,_,rfl⟩
    rw[ht1] at hE c1 s1;simp only[] at hE s1 c1;have c2:=fun W hW=>getText_any (.slice (some ⟨b,off,none⟩) l.length (D+2)) l q1 150 W hW
    have s2:=getText_spec l q1 150;obtain⟨tv,q2,e2,ht2⟩:∃a b c,getText l q1 150=(a,b,c):=⟨_,_,_,rfl⟩
    rw[ht2] at hE c2 s2;simp only[] at hE s2 c2;have C1:=qH c1;have C2:=qH c2;have yV:=qH (HV.out.below ad);clear c1 c2 ht1 ht2 HE hx hs1 hg2 hs;by_cases he1:e1=0
    ·subst he1
     by_cases gl:e2=0
     ·subst gl
      have htl:tv.length≤150:=by omega
      simp only[ne_eq,not_true_eq_false,if_false] at hE;have HE:=qH hE;clear s1 s2 hE;go_wp2_with fail
      refine(C1.out _ yV.out).mono ?_;rintro x w2⟨rfl,rfl⟩;go_wp2_with fail
      refine(C2.out _ yV.out).mono ?_;rintro x w2⟨rfl,rfl⟩;go_wp2_with (refine wpList_bytes rfl (.tmp 49) 9 46 5 rfl Tryz.underlying9 Tryz.underlying46 Tryz.underlying5 (by rfl) ?_ ?_)
      ·unfold maxLen;omega
      intro g c w2 bB hb2;have fJ:=(aK.below hb2).alloc (Obj.cells #[.string ⟨tk.toArray⟩,.slice (some ⟨g,0,none⟩) tv.length c] 78);have dn:=(bB.base_ (base':=w.heap.size) hsz).below ((Below.refl _ _).alloc (Nat.le_refl _) (Obj.cells #[.string ⟨tk.toArray⟩,.slice (some ⟨g,0,none⟩) tv.length c] 78));have ag:Below w.heap.size w w2:=ad.trans (hb2.mono hsz);have aA:=ag.alloc ag.size (Obj.cells #[.string ⟨tk.toArray⟩,.slice (some ⟨g,0,none⟩) tv.length c] 78);obtain⟨us,ah,ho,bC⟩:=fJ;have jH:=qH (show us.length=acc.length by rw[←ah,List.length_map]);have ce:=qH ah;have bm:=ag.size;clear aK bB ad ah hb2 ag;go_wp2_with (at_builtin;refine wpList_own rfl (.tmp 47) (.tmp 52) 40 40 rfl w.heap.size 78 (.agg #[.string ⟨#[]⟩,.slice none 0 0]) 2 40 Tryz.underlying40 info78 rfl rfl ho rfl (src_two _ (by simp) Tryz.underlying40 78 _ _ rfl rfl) aA (Nat.le_refl _) ?_ ?_ ?_ ?_)
      ·have:=jH.out;have:=ir.out;unfold maxLen;omega
      ·have:=jH.out;have:=ir.out;omega
      ·simp;omega
      intro v' w4 ho' hb4 hg4;have aM:=OR.push (by decide) ho bC dn ho' hg4;rw[ce.out] at aM;have jp:=qH aM;have ai:=qH hb4;clear ho bC dn ho' hg4 aM hb4;go_wp2;go_roundw
      case rel=>exact⟨k+1,_,by omega,by go_num,by rw[List.length_append,ir.out];rfl,jp.out,ai.out,HE.out⟩
      case measure=>simp[intOf];omega
     ·have hne:(e2 !=0)=true:=by simpa using gl
      have yx:=qH (show slotsF l n 0 []=none by rw[←hE];simp[gl]);have HB:=qH ad;clear hE s1 s2 gl ad;go_wp2_with fail
      refine(C1.out _ yV.out).mono ?_;rintro x w2⟨rfl,rfl⟩;go_wp2_with fail
      refine(C2.out _ yV.out).mono ?_;rintro x w2⟨rfl,rfl⟩;go_wp2
      go_ret2
      exact GivesSl.none_ (HR.out.trans yx.out) HB.out
    ·have hne:(e1 !=0)=true:=by simpa using he1
     have yx:=qH (show slotsF l n 0 []=none by rw[←hE];simp[he1]);have HB:=qH ad;clear hE s1 s2 he1 ad;go_wp2_with fail
     refine(C1.out _ yV.out).mono ?_;rintro x w2⟨rfl,rfl⟩;go_wp2
     go_ret2
     exact GivesSl.none_ (HR.out.trans yx.out) HB.out
   ·have e:k=n:=by omega
    have hE:=HE.out;rw[e,Nat.sub_self,slotsF] at hE;have C6:=qH hE.symm;have HB:=qH ad;have HO:=qH aK;clear hE ad aK HE;go_wp2
    go_ret2
    exact GivesSl.some_ (HR.out.trans C6.out) HO.out HB.out
def GivesRR(w:World)(r:Option (Rw×Nat))(e:Ending)(w':World):Prop:=
 ∃(k:ByteArray) (u:Value) (y:Int) (ul:List UInt8),e= .returned (.tuple #[.agg #[.string k,u],.int .i64 y,.bool r.isSome])∧FB 5 w' w.heap.size u ul∧Below w.heap.size w w'∧
  ∀row s,r=some (row,s)→k=row.1∧ul=row.2∧y=s
theorem GivesRR.none_{w w':World}{r:Option (Rw×Nat)}{k:ByteArray}{u:Value}{y:Int}{ul:List UInt8}(h:r=none)(hf:FB 5 w' w.heap.size u ul)(hb:Below w.heap.size w w'):
  GivesRR w r (.returned (.tuple #[.agg #[.string k,u],.int .i64 y,.bool false])) w':=by
 subst h;exact⟨k,u,y,ul,rfl,hf,hb,fun _ _ h=>by cases h⟩
theorem GivesRR.some_{w w':World}{r:Option (Rw×Nat)}{k:ByteArray}{u:Value}{s:Nat}{ul:List UInt8}(h:r=some ((k,ul),s))(hf:FB 5 w' w.heap.size u ul)(hb:Below w.heap.size w w'):
  GivesRR w r (.returned (.tuple #[.agg #[.string k,u],.int .i64 s,.bool true])) w':=by
 subst h;refine⟨k,u,s,ul,rfl,hf,hb,fun row s' h=>?_⟩;injection h with h;injection h with h1 h2;subst h1;subst h2;exact⟨rfl,rfl,rfl⟩
theorem refRow_any(v:Value)(l:List UInt8)(hl:l.length=256)(i e:Nat)(hi:i≤255)(he:e≤252)(w:World)(hv:RB w v l):
  Calls Tryz.prog 157 #[v,.int .i64 i,.int .i64 e] w (GivesRR w (refRow l i e)):=by
 have HV:=qH hv;obtain⟨A,c,rfl,hlc,hc,_⟩:=hv;unfold maxLen at hc;have hR:refRow l i e=if e≤2+i then none else if e≤(l.getD (2+i) 0).toNat then none else
  if (getText (l.take e) (l.getD (2+i) 0).toNat 30).2.2≠0 then none else
  if (getText (l.take e) (getText (l.take e) (l.getD (2+i) 0).toNat 30).2.1 150).2.2=0∧(getText (l.take e) (getText (l.take e) (l.getD (2+i) 0).toNat 30).2.1 150).2.1=e
  then some ((⟨(getText (l.take e) (l.getD (2+i) 0).toNat 30).1.toArray⟩,(getText (l.take e) (getText (l.take e) (l.getD (2+i) 0).toNat 30).2.1 150).1),(l.getD (2+i) 0).toNat) else none:=rfl
 by_cases h1:e≤2+i
 ·rw[if_pos h1] at hR
  have HR:=qH hR;have h1':(e:Int)≤2+(i:Int):=by omega
  clear hR;go_enter Tryz.func157,Tryz.ntmps157;go_wp2;refine bodyPost_ret (v:= .tuple #[.agg #[.string ⟨#[]⟩,.slice none 0 0],.int .i64 0,.bool false]) (by simp[results,Tryz.results157,go_sem]) rfl (GivesRR.none_ (ul:= []) HR.out (.inl ⟨rfl,rfl⟩) ?_);exact(Below.refl _ _).alloc (Nat.le_refl _) _
 ·rw[if_neg h1] at hR
  have h1':2+(i:Int)<(e:Int):=by omega
  obtain⟨b,off,rfl,hb,hs⟩:=rb_cell HV.out (k:=2+i) (by omega);have hg:l.getD (2+i) 0=l[2+i]'(by omega):=by rw[List.getD_eq_getElem?_getD,List.getElem?_eq_getElem (by omega)];rfl
  rw[hg] at hR;obtain⟨x,hx⟩:∃x,x=l[2+i]'(by omega):=⟨_,rfl⟩
  rw[←hx] at hR hs;unfold bv at hs;have sQ:=x.toNat_lt;obtain⟨s,hs1⟩:∃s,s=x.toNat:=⟨_,rfl⟩
  rw[←hs1] at hR hs sQ;have Er:(l.length:Int)=256:=by omega
  have KP:(e:Int)≤(c:Int):=by omega
  have hce:(256:Int)≤(c:Int):=by omega
  have hi2:(2:Int)+(i:Int)<256:=by omega
  have hhead:RB w (.slice (some ⟨b,off,none⟩) e c) (l.take e):=HV.out.head (by omega);clear hx hs1 hg;by_cases h2:e≤s
  ·rw[if_pos h2] at hR
   have HR:=qH hR;have h2':(e:Int)≤(s:Int):=by omega
   clear hR hhead;go_enter Tryz.func157,Tryz.ntmps157;go_wp2;refine bodyPost_ret (v:= .tuple #[.agg #[.string ⟨#[]⟩,.slice none 0 0],.int .i64 0,.bool false]) (by simp[results,Tryz.results157,go_sem]) rfl (GivesRR.none_ (ul:= []) HR.out (.inl ⟨rfl,rfl⟩) ?_);exact(Below.refl _ _).alloc (Nat.le_refl _) _
  ·rw[if_neg h2] at hR
   have h2':(s:Int)<(e:Int):=by omega
   have hle:(l.take e).length=e:=by rw[List.length_take];omega
   generalize l.take e=le at *;have c1:=fun W hW=>refGetText_any (.slice (some ⟨b,off,none⟩) e c) le (s:Int) 30 W hW
   have s1:=getText_spec le (s:Int) 30;obtain⟨tk,q1,e1,ht1⟩:∃a b c,getText le (s:Int) 30=(a,b,c):=⟨_,_,_,rfl⟩
   rw[ht1] at hR c1 s1;simp only[] at hR s1 c1;have c2:=fun W hW=>refGetText_any (.slice (some ⟨b,off,none⟩) e c) le q1 150 W hW
   have s2:=getText_spec le q1 150;obtain⟨tv,q2,e2,ht2⟩:∃a b c,getText le q1 150=(a,b,c):=⟨_,_,_,rfl⟩
   rw[ht2] at hR c2 s2;simp only[] at hR s2 c2;have C1:=qH c1;have C2:=qH c2;have HH:=qH hhead;clear c1 c2 ht1 ht2 hhead;by_cases he1:e1=0
   ·subst he1
    rw[if_neg (by simp)] at hR;have htl:tv.length≤150:=by
     rcases s2 with s2|s2
     ·omega
     ·rw[s2.2.1];simp
    have H3:∀(bb:Bool),((e2==0) && (q2==(e:Int)))=bb→(bb=true→refRow l i e=some ((⟨tk.toArray⟩,tv),s))∧(bb=false→refRow l i e=none):=by
     intro bb hbb;constructor
     ·intro h;rw[h] at hbb;rw[hR,if_pos (by simpa using hbb)]
     ·intro h;rw[h] at hbb;rw[hR,if_neg (by simpa using hbb)]
    have yJ:=qH H3;clear hR s1 s2 H3;rcases(show((e2==0)=false)∨((e2==0)=true∧(q2==(e:Int))=false)∨((e2==0)=true∧(q2==(e:Int))=true) from by
     cases (e2==0)<;>cases (q2==(e:Int))<;>simp) with hA|⟨hA,hB⟩|⟨hA,hB⟩
    all_goals
     have HQ:=qH hA;go_enter Tryz.func157,Tryz.ntmps157;go_wp2_with fail
     refine(C1.out _ (HH.out.alloc _)).mono ?_;rintro x w1⟨rfl,rfl⟩;go_wp2_with fail
     refine(C2.out _ (HH.out.alloc _)).mono ?_;rintro x w1⟨rfl,rfl⟩;go_wp2_with (refine wpList_bytes rfl (.tmp 59) 9 46 5 rfl Tryz.underlying9 Tryz.underlying46 Tryz.underlying5 (by rfl) ?_ ?_)
     ·unfold maxLen;omega
     intro g c' w' bB hb2;have hx0:w'.cell? ⟨w.heap.size,0,none⟩=some (.string ⟨#[]⟩):=(hb2.cell (p:=⟨w.heap.size,0,none⟩) (by simp)).trans (by simp);have hx1:w'.cell? ⟨w.heap.size,1,none⟩=some (.slice none 0 0):=(hb2.cell (p:=⟨w.heap.size,1,none⟩) (by simp)).trans (by simp);have ii:w'.frozen? ⟨w.heap.size,0,none⟩=false:=(hb2.frozen (p:=⟨w.heap.size,0,none⟩) (by simp)).trans (by simp);have eo:w'.frozen? ⟨w.heap.size,1,none⟩=false:=(hb2.frozen (p:=⟨w.heap.size,1,none⟩) (by simp)).trans (by simp);have hb3:Below w.heap.size w w':=((Below.refl _ _).alloc (Nat.le_refl _) _).trans (hb2.mono (by simp));have jc:=bB.base_ (base':=w.heap.size+1) (Nat.le_refl _);have HF:=qH jc;have HB:=qH hb3;clear bB jc hb2 hb3;go_wp2
    ·refine bodyPost_ret (v:= .tuple #[.agg #[.string ⟨tk.toArray⟩,.slice (some ⟨g,0,none⟩) tv.length c'],.int .i64 s,.bool false]) (by simp[results,Tryz.results157,go_sem,hx0,hx1]) rfl (GivesRR.none_ (ul:=tv) ((yJ.out false (by rw[hA];rfl)).2 rfl) ?_ ?_)
     ·exact((HF.out.setCell (by simp) _).setCell (by simp) _).base_ (Nat.le_succ _)
     ·exact(HB.out.setCell (Nat.le_refl _) _).setCell (Nat.le_refl _) _
    ·refine bodyPost_ret (v:= .tuple #[.agg #[.string ⟨tk.toArray⟩,.slice (some ⟨g,0,none⟩) tv.length c'],.int .i64 s,.bool false]) (by simp[results,Tryz.results157,go_sem,hx0,hx1]) rfl (GivesRR.none_ (ul:=tv) ((yJ.out false (by rw[hA,hB];rfl)).2 rfl) ?_ ?_)
     ·exact((HF.out.setCell (by simp) _).setCell (by simp) _).base_ (Nat.le_succ _)
     ·exact(HB.out.setCell (Nat.le_refl _) _).setCell (Nat.le_refl _) _
    ·refine bodyPost_ret (v:= .tuple #[.agg #[.string ⟨tk.toArray⟩,.slice (some ⟨g,0,none⟩) tv.length c'],.int .i64 s,.bool true]) (by simp[results,Tryz.results157,go_sem,hx0,hx1]) rfl (GivesRR.some_ ((yJ.out true (by rw[hA,hB];rfl)).1 rfl) ?_ ?_)
     ·exact((HF.out.setCell (by simp) _).setCell (by simp) _).base_ (Nat.le_succ _)
     ·exact(HB.out.setCell (Nat.le_refl _) _).setCell (Nat.le_refl _) _
   ·rw[if_pos he1] at hR
    have hne:(e1 !=0)=true:=by simpa using he1
    have HR:=qH hR;clear hR s1 s2 he1;go_enter Tryz.func157,Tryz.ntmps157;go_wp2_with fail
    refine(C1.out _ (HH.out.alloc _)).mono ?_;rintro x w1⟨rfl,rfl⟩;go_wp2;refine bodyPost_ret (v:= .tuple #[.agg #[.string ⟨#[]⟩,.slice none 0 0],.int .i64 0,.bool false]) (by simp[results,Tryz.results157,go_sem]) rfl (GivesRR.none_ (ul:= []) HR.out (.inl ⟨rfl,rfl⟩) ?_);exact(Below.refl _ _).alloc (Nat.le_refl _) _
end Go.Proofs.YtmbkaedhllfoeaaGreat
