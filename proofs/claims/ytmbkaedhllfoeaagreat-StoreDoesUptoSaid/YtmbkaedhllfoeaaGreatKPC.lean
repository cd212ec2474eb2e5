/-
  Texts of the proof, put together.
-/
import Derived.Test.YtmbkaedhllfoeaaGreatProg
import Derived.Test.YtmbkaedhllfoeaaGreatKPB
import Derived.Test.YtmbkaedhllfoeaaGreatKPWr
set_option maxRecDepth 100000
set_option maxHeartbeats 4000000
set_option linter.unusedVariables false
namespace Go.Proofs.YtmbkaedhllfoeaaGreat
open Go.RowKit Go.Rst
theorem info5:(Tryz.prog.info? 5).map (fun i=>(i.zero,i.size,i.bytes))=some (some (.int .u8 0),1,1):=by kernel_rfl
def Blk(w:World)(g:Nat)(t:TypeId)(cs:Array Value):Prop:=w.heap[g]? =some (.cells cs t (0,0))
section
variable {w w':World} {g:Nat} {t:TypeId} {cs:Array Value}
theorem Blk.lt(h:Blk w g t cs):g<w.heap.size:=by
 rcases Nat.lt_or_ge g w.heap.size with hlt|hge
 ·exact hlt
 ·unfold Blk at h;rw[Array.getElem?_eq_none hge] at h;cases h
theorem Blk.cell(h:Blk w g t cs)(i:Nat):w.cell? ⟨g,i,none⟩=cs[i]? :=cell_of_row w g i cs t (0,0) h
theorem Blk.frozen(h:Blk w g t cs)(i:Nat):w.frozen? ⟨g,i,none⟩=false:=by
 unfold Blk at h;simp[World.frozen?,h]
theorem Blk.alloc(h:Blk w g t cs)(o:Obj):Blk (w.alloc o) g t cs:=(Below.heap_alloc w o g h.lt).trans h
theorem Blk.set_(h:Blk w g t cs)(i:Nat)(u:Value):Blk (w.setCell ⟨g,i,none⟩ u) g t (cs.setIfInBounds i u):=by
 unfold Blk at h⊢;simp[World.setCell,Array.getElem?_modify,h]
theorem Blk.far(h:Blk w g t cs){p:Addr}(hp:g≠p.block)(u:Value):Blk (w.setCell p u) g t cs:=(Below.heap_setCell w p u g hp).trans h
theorem Blk.below{B:Nat}(h:Blk w g t cs)(hb:Below B w w')(hg:g<B):Blk w' g t cs:=(hb.block g hg).trans h
end
theorem str22{w:World}{v:Value}{l:List UInt8}(h:RB w v l):(convert 46 9 v).run Tryz.prog w= .ok (.string ⟨l.toArray⟩) w:=h.str Tryz.underlying46 Tryz.underlying5 Tryz.underlying9
theorem rb_cell{w:World}{A:Option Addr}{c:Nat}{l:List UInt8}(h:RB w (.slice A l.length c) l){k:Nat}(hk:k<l.length):
  ∃b off,A=some ⟨b,off,none⟩∧b<w.heap.size∧w.cell? ⟨b,off+k,none⟩=some (bv l[k]):=by
 obtain⟨A',c',he,_,_,h3⟩:=h;injection he with e1 e2 e3;subst e1;rcases h3 with h3|⟨b,off,h4,h5,h6⟩
 ·rw[h3] at hk;simp at hk
 ·exact⟨b,off,h4,h5,h6 k hk⟩
theorem rb_far{w:World}{b o n c:Nat}{l:List UInt8}(h:RB w (.slice (some ⟨b,o,none⟩) n c) l){p:Addr}(hp:b≠p.block)(u:Value):RB (w.setCell p u) (.slice (some ⟨b,o,none⟩) n c) l:=by
 obtain⟨A,c',he,h1,h2,h3⟩:=h;refine⟨A,c',he,h1,h2,?_⟩;rcases h3 with h3|⟨b',o',rfl,hb,hc⟩
 ·exact .inl h3
 ·injection he with he _ _
  injection he with he;injection he with e1 _ _;subst e1;exact .inr ⟨b,o',rfl,by simpa using hb,fun j hj=>(World.cell?_of_block (a:=⟨b,o'+j,none⟩) (Below.heap_setCell w p u b hp)).trans (hc j hj)⟩
theorem own_addr{w:World}{base n:Nat}{e:TypeId}{v:Value}{l:List UInt8}(h:w.ownsRow base e 1 v n (bvs l))(hl:0<l.length):∃g c,v= .slice (some ⟨g,0,none⟩) n c∧base≤g∧g<w.heap.size∧(c:Int)≤9223372036854775807:=by
 rcases h.2 with ⟨rfl,h0⟩|⟨g,cap,cur,rfl,hb,hg,_,hcm,_,_⟩
 ·have:=h.1
  rw[h0,bvs_length] at this;omega
 ·refine⟨g,cap,rfl,hb,(Array.getElem?_eq_some_iff.1 hg).1,?_⟩
  unfold maxLen at hcm;omega
theorem bel_drewN(w:World)(n:Nat):Below w.heap.size w (w.drewN n):=⟨rfl,rfl,rfl,Nat.le_refl _,fun _ _=>rfl⟩
theorem bv_nat{n:Nat}(h:n<256):Value.int .u8 (n:Int)=bv (UInt8.ofNat n):=by
 unfold bv;rw[byte_val h]
theorem bva_get{l:List UInt8}{j:Nat}(h:j<l.length):(bvs l).toArray[j]? =some (bv l[j]):=by
 rw[List.getElem?_toArray,bvs_get h]
theorem one5:(Tryz.prog.info? 5).map (·.size)=some 1:=by kernel_rfl
theorem info78:(Tryz.prog.info? 78).map (fun i=>(i.zero,i.size,i.bytes))=some (some (.agg #[.string ⟨#[]⟩,.slice none 0 0]),2,40):=by kernel_rfl
theorem rr_at{w:World}{A:Option Addr}{n c:Nat}{rs:List (ByteArray×List UInt8)}(h:RR w (.slice A n c) rs){k:Nat}(hk:k<rs.length):
  ∃b off u,A=some ⟨b,off,none⟩∧w.cell? ⟨b,off+k*2,none⟩=some (.string rs[k].1)∧w.cell? ⟨b,off+k*2+1,none⟩=some u∧RB w u rs[k].2:=by
 obtain⟨A',c',he,_,_,h3⟩:=h;injection he with e1 _ _;subst e1;rcases h3 with rfl|⟨b,off,rfl,_,hc⟩
 ·simp at hk
 ·obtain⟨h1,u,h2,h3⟩:=hc k hk
  exact⟨b,off,u,rfl,h1,h2,h3⟩
theorem rr_below{w w':World}{B:Nat}{v:Value}{rs:List (ByteArray×List UInt8)}(h:RR w v rs)(hb:Below B w w')(hB:w.heap.size≤B):RR w' v rs:=by
 obtain⟨A,c,rfl,h1,h2,h3⟩:=h;refine⟨A,c,rfl,h1,h2,?_⟩;rcases h3 with rfl|⟨b,off,rfl,hb0,hc⟩
 ·exact .inl rfl
 ·refine .inr ⟨b,off,rfl,Nat.lt_of_lt_of_le hb0 (hb.size),fun j hj=>?_⟩
  obtain⟨a1,u,a2,a3⟩:=hc j hj;exact⟨(hb.cell (p:=⟨b,off+j*2,none⟩) (by show b<B;omega)).trans a1,u,(hb.cell (p:=⟨b,off+j*2+1,none⟩) (by show b<B;omega)).trans a2,a3.below (hb.mono hB)⟩
theorem rr_block{w:World}{b off n c:Nat}{rs:List (ByteArray×List UInt8)}(h:RR w (.slice (some ⟨b,off,none⟩) n c) rs)(hl:0<rs.length):b<w.heap.size:=by
 obtain⟨A',c',he,_,_,h3⟩:=h;injection he with e1 _ _;rcases h3 with rfl|⟨b',off',h4,h5,_⟩
 ·simp at hl
 ·rw[h4] at e1;injection e1 with e1;injection e1 with e1 _ _;omega
theorem rr_nil(w:World):RR w (.slice none 0 0) []:=⟨none,0,rfl,Nat.le_refl _,Nat.zero_le _,.inl rfl⟩
theorem rr_take{w:World}{A:Option Addr}{m c:Nat}{rs:List (ByteArray×List UInt8)}(h:RR w (.slice A m c) rs){n:Nat}(hn:n≤rs.length):RR w (.slice A n c) (rs.take n):=by
 obtain⟨A',c',he,h1,h2,h3⟩:=h;injection he with e1 _ e3;subst e1;subst e3;have hl:(rs.take n).length=n:=by rw[List.length_take];omega
 refine⟨A,c,by rw[hl],by omega,h2,?_⟩;rcases h3 with rfl|⟨b,off,rfl,hb,hc⟩
 ·exact .inl (by simp)
 ·refine .inr ⟨b,off,rfl,hb,fun j hj=>?_⟩
  have:=hc j (by omega);rw[List.getElem_take];exact this
theorem or_shape{e eR:TypeId}{w:World}{base:Nat}{v:Value}{rs:List (ByteArray×List UInt8)}(h:OR e eR w base v rs):∃A c,v= .slice A rs.length c:=by
 obtain⟨A,c,h,_⟩:=h.rr;exact⟨A,c,h⟩
theorem num_any(n:Int)(w:World):Calls Tryz.prog 115 #[.int .i64 n] w (NewB 5 w (numL (clip n))):=by
 have hcl:=clip_le n;have h8:=numL_len8 hcl;rcases(show n<0∨(0≤n∧n≤9007199254740992)∨9007199254740992<n from by omega) with h|⟨h,h'⟩|h
 all_goals
  have hc:(clip n:Int)=max 0 (min n 9007199254740992):=by unfold clip;omega
  generalize clip n=c at *;have HC:=qH hc;clear hc;go_enter Tryz.func115,Tryz.ntmps115;go_wp2
  go_loopw [0,3] (fun x b wr=>∃(k:Nat) (acc:List UInt8),(k:Int)≤9007199254740992∧x= .int .i64 k∧acc++numL k=numL c∧wr.ownsRow w.heap.size 5 1 b acc.length (bvs acc)∧Below w.heap.size w wr)
   (fun x _ _=>(intOf x).toNat)
  case atStart=>exact⟨c,[],by omega,by have:=HC.out;go_num,rfl,World.ownsRow_nil _ _ _ _,Below.refl _ _⟩
  case round=>
   obtain⟨k,acc,hk,rfl,heq,hown,ad⟩:=hrel;have hsz:=ad.size;have hlen:acc.length≤7:=by
    have h1:=congrArg List.length heq;rw[List.length_append] at h1;have h2:=numL_pos k;omega
   have H:=qH heq;clear heq;by_cases hlt:128≤k
   ·go_wp2_with (at_builtin;refine wpList_own rfl (.tmp 11) (.tmp 15) 46 46 rfl w.heap.size 5 (.int .u8 0) 1 1 Tryz.underlying46 info5 rfl rfl (hown.alloc _) rfl (src_one wr Tryz.underlying46 5 _ rfl) (ad.alloc ad.size _) (Nat.le_refl _) ?_ ?_ ?_ ?_)
    ·unfold maxLen;omega
    ·omega
    ·simp;omega
    ·intro v' w1 hown' hbel' _
     rw[byte_more k] at hown';clear hown ad;go_wp2;go_roundw
     case rel=>exact⟨k/128,acc++ [UInt8.ofNat (k%128+128)],by omega,by go_num,by rw[←H.out,numL_ge hlt,List.append_assoc];rfl,own_snoc hown',hbel'⟩
     case measure=>simp[intOf];omega
   ·go_wp2_with (at_builtin;refine wpList_own rfl (.tmp 17) (.tmp 20) 46 46 rfl w.heap.size 5 (.int .u8 0) 1 1 Tryz.underlying46 info5 rfl rfl (hown.alloc _) rfl (src_one wr Tryz.underlying46 5 _ rfl) (ad.alloc ad.size _) (Nat.le_refl _) ?_ ?_ ?_ ?_)
    ·unfold maxLen;omega
    ·omega
    ·simp;omega
    ·intro v' w1 hown' hbel' _
     go_wp2;go_ret;rw[byte_last (show k<128 by omega)] at hown';have e:numL c=acc++ [UInt8.ofNat k]:=by rw[←H.out,numL_lt (by omega)]
     exact⟨v',rfl,by rw[e];exact own_snoc hown',hbel'⟩
theorem text_any(s:ByteArray)(hs:s.size≤1000000000)(w:World):Calls Tryz.prog 161 #[.string s] w (NewB 5 w (textL s.data.toList)):=by
 go_enter Tryz.func161,Tryz.ntmps161;go_wp2_with fail
 refine(num_any _ _).mono ?_;rintro e w1⟨v,rfl,hown,ad⟩;have e1:clip (s.size:Int)=s.data.toList.length:=by unfold clip;rw[Array.length_toList];show _=s.size;omega
 rw[e1] at hown;have h8:=numL_len8 (n:=s.data.toList.length) (by rw[Array.length_toList];show s.size≤_;omega);have hls:s.data.toList.length=s.size:=by rw[Array.length_toList];rfl
 have Fw:=qH hls;clear hls e1;go_wp2_with (at_builtin;refine wpList_own rfl (.tmp 5) (.tmp 6) 46 9 rfl w.heap.size 5 (.int .u8 0) 1 1 Tryz.underlying46 info5 rfl rfl hown rfl (src_string Tryz.underlying9 s) ad (Nat.le_refl _) ?_ ?_ ?_ ?_)
 ·have:=Fw.out;unfold maxLen;omega
 ·have:=Fw.out;omega
 ·exact ad.size
 ·intro v' w2 hown' hbel' _
  go_wp2;go_ret;exact⟨v',rfl,own_cat hown',hbel'⟩
theorem getNum_any(v:Value)(l:List UInt8)(p:Int)(w:World)(hv:RB w v l):Calls Tryz.prog 164 #[v,.int .i64 p] w fun e w'=>e= .returned (.tuple #[.int .i64 (getNum l p).1,.int .i64 (getNum l p).2.1,.int .u16 (getNum l p).2.2])∧w=w':=by
 obtain⟨A,c,rfl,hlc,hc,hcells⟩:=hv;have HC:=qH hcells;clear hcells;go_enter Tryz.func164,Tryz.ntmps164;go_wp2;refine wp_scope_fwd 0 rfl ?_;go_wp2
 go_loop [1,7,8,11] (fun x n e i=>∃(k acc:Nat) (q:Int),k≤8∧i= .int .i64 k∧e= .int .u16 11∧n= .int .i64 acc∧(k=0∨0≤q)∧x= .int .i64 q∧acc<128^k∧gnumF l (8-k) k acc q=getNum l p)
  (fun _ _ _ i=>8-(intOf i).toNat)
 case atStart=>exact⟨0,0,p,by omega,rfl,rfl,rfl,.inl rfl,rfl,by decide,rfl⟩
 case round=>
  obtain⟨k,acc,q,hk,rfl,rfl,rfl,hq,rfl,hacc,heq⟩:=hrel;have H:=qH heq;have HA:=qH hacc;clear heq hacc;unfold maxLen at hc;by_cases hlt:k<8
  ·rcases(show q<0∨(0≤q∧(l.length:Int)≤q)∨(0≤q∧q<l.length) from by omega) with hin|⟨h0,hin⟩|⟨h0,hin⟩
   ·go_wp2
    go_step3;refine⟨rfl,?_⟩;unfold Behind;go_wp2;rw[Exit.noGoto_ret]
    go_ret3
    have e:getNum l p=(0,0,10):=by rw[←H.out,show 8-k=(7-k)+1 from by omega,gnumF,if_pos (.inl hin)]
    rw[e];exact⟨rfl,rfl⟩
   ·go_wp2
    go_step3;refine⟨rfl,?_⟩;unfold Behind;go_wp2;rw[Exit.noGoto_ret]
    go_ret3
    have e:getNum l p=(0,0,10):=by rw[←H.out,show 8-k=(7-k)+1 from by omega,gnumF,if_pos (.inr hin)]
    rw[e];exact⟨rfl,rfl⟩
   ·obtain⟨m,rfl⟩:=Int.eq_ofNat_of_zero_le h0
    have hm:m<l.length:=by omega
    obtain⟨b,off,rfl,hb,hcell⟩:∃b off,A=some ⟨b,off,none⟩∧b<w.heap.size∧∀j (h:j<l.length),w.cell? ⟨b,off+j,none⟩=some (bv l[j]):=by
     rcases HC.out with rfl|h
     ·simp at hm
     ·exact h
    have hc1:=hcell m hm;obtain⟨d,hd⟩:∃d,d=l[m].toNat:=⟨_,rfl⟩
    have hd':d<256:=by rw[hd];exact l[m].toNat_lt
    unfold bv at hc1;rw[←hd] at hc1;have HD:=qH hd;clear hd hcell;have hgd:(l.getD (Int.toNat (m:Int)) 0).toNat=d:=by rw[Int.toNat_natCast,List.getD_eq_getElem?_getD,List.getElem?_eq_getElem hm,HD.out];rfl
    have zn:=digit_up hd' hlt HA.out;obtain⟨N,hN⟩:∃N,N=acc+d%128*128^k:=⟨_,rfl⟩
    rw[←hN] at zn;have mB:N<128^(k+1):=by
     rw[hN,Nat.pow_succ];have h1:=HA.out;have h2:d%128*128^k≤127*128^k:=Nat.mul_le_mul_right _ (by omega);omega
    have hstep:gnumF l (8-k) k acc (m:Int)=if 128≤d then gnumF l (7-k) (k+1) N (m+1) else if (d=0∧0<k)∨9007199254740992<N then (0,0,11) else ((N:Int),(m:Int)+1,0):=by
     rw[show 8-k=(7-k)+1 from by omega,gnumF,if_neg (by omega),hgd,hN]
    rw[hstep] at H;have oB:=qH mB;clear hgd HA HD hN mB hstep HC;by_cases hge:128≤d
    ·rw[if_pos hge] at H
     go_wp2;go_round
     case rel=>exact⟨k+1,N,(m:Int)+1,by omega,by go_num,rfl,rfl,by omega,rfl,oB.out,by rw[show 8-(k+1)=7-k from by omega];exact H.out⟩
     case measure=>simp[intOf];omega
    ·rw[if_neg hge] at H
     by_cases hz:d=0∧0<k
     ·have e:getNum l p=(0,0,11):=by rw[←H.out,if_pos (.inl hz)]
      have E:=qH e;obtain⟨rfl,dt⟩:=hz;clear e H;go_wp2;go_step3;refine⟨rfl,?_⟩;unfold Behind;go_wp2;rw[Exit.noGoto_ret]
      go_ret3
      rw[E.out];exact⟨rfl,rfl⟩
     ·by_cases hbig:9007199254740992<N
      ·have e:getNum l p=(0,0,11):=by rw[←H.out,if_pos (.inr hbig)]
       have E:=qH e;clear e H;have cA:(9007199254740992:Int)<(N:Int):=by omega
       clear hbig;rcases(show((d:Int)==0)=false∨(((d:Int)==0)=true∧(k:Int)≤0) from by
        by_cases h:d=0
        ·exact .inr ⟨by simp[h],by omega⟩
        ·exact .inl (by simp;omega)) with hd0|⟨hd0,dt⟩
       all_goals
        go_wp2;go_step3;refine⟨rfl,?_⟩;unfold Behind;go_wp2;rw[Exit.noGoto_ret]
        go_ret3
        rw[E.out];exact⟨rfl,rfl⟩
      ·have e:getNum l p=((N:Int),(m:Int)+1,0):=by rw[←H.out,if_neg (by omega)]
       have E:=qH e;clear e H;have cA:(N:Int)≤(9007199254740992:Int):=by omega
       clear hbig;rcases(show((d:Int)==0)=false∨(((d:Int)==0)=true∧(k:Int)≤0) from by
        by_cases h:d=0
        ·exact .inr ⟨by simp[h],by omega⟩
        ·exact .inl (by simp;omega)) with hd0|⟨hd0,dt⟩
       all_goals
        go_wp2;simp only[Exit.jump]
        go_ret3
        rw[E.out];exact⟨rfl,rfl⟩
  ·go_wp2
   go_step3;go_wp2;simp only[Exit.jump]
   go_ret3
   have e:getNum l p=(0,0,11):=by rw[←H.out,show 8-k=0 from by omega,gnumF]
   rw[e];exact⟨rfl,rfl⟩
theorem getText_any(v:Value)(l:List UInt8)(p most:Int)(w:World)(hv:RB w v l):Calls Tryz.prog 152 #[v,.int .i64 p,.int .i64 most] w fun e w'=>e= .returned (.tuple #[.string ⟨(getText l p most).1.toArray⟩,.int .i64 (getText l p most).2.1,.int .u16 (getText l p most).2.2])∧w=w':=by
 have hv0:=hv;obtain⟨A,c,rfl,hlc,hc,hcells⟩:=hv;have HC:=qH hcells;clear hcells;unfold maxLen at hc;have fj:=getNum_spec l p;obtain⟨n,q,er,hg⟩:∃n q er,getNum l p=(n,q,er):=⟨_,_,_,rfl⟩
 have HG:=qH hg;have hcall:=getNum_any _ l p w hv0;rw[hg] at hcall fj;have HK:=qH hcall;have HV:=qH hv0;clear hg hcall hv0;rcases fj with ⟨rfl,h1,h2,h3,h4,h5⟩|⟨her,rfl,rfl⟩
 ·by_cases hm:most<n
  ·have e:getText l p most=([],0,3):=by unfold getText;rw[HG.out];simp[hm]
   have E:=qH e;clear e;go_enter Tryz.func152,Tryz.ntmps152;go_wp2;refine wp_scope_fwd 0 rfl ?_;go_wp2_with fail
   refine HK.out.mono ?_;rintro x w1⟨rfl,rfl⟩;go_wp2;go_step3;refine⟨rfl,?_⟩;unfold Behind;go_wp2;rw[Exit.noGoto_ret]
   go_ret3
   rw[E.out];exact⟨rfl,rfl⟩
  ·by_cases hs:(l.length:Int)-q<n
   ·have e:getText l p most=([],0,10):=by unfold getText;rw[HG.out];simp[hm,hs]
    have E:=qH e;clear e;go_enter Tryz.func152,Tryz.ntmps152;go_wp2;refine wp_scope_fwd 0 rfl ?_;go_wp2_with fail
    refine HK.out.mono ?_;rintro x w1⟨rfl,rfl⟩;go_wp2;go_step3;refine⟨rfl,?_⟩;unfold Behind;go_wp2;rw[Exit.noGoto_ret]
    go_ret3
    rw[E.out];exact⟨rfl,rfl⟩
   ·have e:getText l p most=((l.drop q.toNat).take n.toNat,q+n,0):=by unfold getText;rw[HG.out];simp[hm,hs]
    have E:=qH e;clear e
    replace h4:p<q:=h4
    obtain⟨n,rfl⟩:=Int.eq_ofNat_of_zero_le h1;obtain⟨q,rfl⟩:=Int.eq_ofNat_of_zero_le (show 0≤q by omega);obtain⟨b,off,rfl,hb,_⟩:∃b off,A=some ⟨b,off,none⟩∧b<w.heap.size∧∀j (h:j<l.length),w.cell? ⟨b,off+j,none⟩=some (bv l[j]):=by
     rcases HC.out with rfl|h
     ·simp at h5;omega
     ·exact h
    have hr:RB w (.slice (some ⟨b,off+q,none⟩) n (c-q)) ((l.drop q).take n):=HV.out.cut (by omega);by_cases hcq:c=q
    ·subst hcq
     obtain rfl:n=0:=by omega
     have hcv:=(RB.head (n:=0) HV.out (Nat.zero_le _)).str (P:=Tryz.prog) (src:=46) (dst:=9) Tryz.underlying46 Tryz.underlying5 Tryz.underlying9;rw[List.take_zero] at hcv;have sD:(convert 46 9 (.slice (some ⟨b,off,none⟩) 0 0)).run Tryz.prog w= .ok (.string ⟨[].toArray⟩) w:=RB.str (P:=Tryz.prog) ⟨_,0,rfl,Nat.le_refl _,Nat.zero_le _,.inl rfl⟩ Tryz.underlying46 Tryz.underlying5 Tryz.underlying9;clear hr HC;go_enter Tryz.func152,Tryz.ntmps152;go_wp2;refine wp_scope_fwd 0 rfl ?_;go_wp2_with fail
     refine HK.out.mono ?_;rintro x w1⟨rfl,rfl⟩;go_wp2;simp only[Exit.jump]
     go_ret3
     rw[E.out];exact⟨rfl,rfl⟩
    ·have hcv:=hr.str (P:=Tryz.prog) (src:=46) (dst:=9) Tryz.underlying46 Tryz.underlying5 Tryz.underlying9
     clear hr HC;go_enter Tryz.func152,Tryz.ntmps152;go_wp2;refine wp_scope_fwd 0 rfl ?_;go_wp2_with fail
     refine HK.out.mono ?_;rintro x w1⟨rfl,rfl⟩;go_wp2;simp only[Exit.jump]
     go_ret3
     rw[E.out];exact⟨rfl,rfl⟩
 ·have e:getText l p most=([],0,er):=by unfold getText;rw[HG.out];rcases her with rfl|rfl <;>simp
  have E:=qH e;clear e;have hne:(er !=0)=true:=by rcases her with rfl|rfl <;>rfl
  have HE:=qH her;clear her;go_enter Tryz.func152,Tryz.ntmps152;go_wp2;refine wp_scope_fwd 0 rfl ?_;go_wp2_with fail
  refine HK.out.mono ?_;rintro x w1⟨rfl,rfl⟩;go_wp2;go_step3;refine⟨rfl,?_⟩;unfold Behind;go_wp2;rw[Exit.noGoto_ret]
  go_ret3
  rw[E.out];exact⟨rfl,rfl⟩
theorem info46:(Tryz.prog.info? 46).map (fun i=>(i.zero,i.size,i.bytes))=some (some (.slice none 0 0),1,24):=by kernel_rfl
def RP(w:World)(v:Value)(ps:List (List UInt8)):Prop:=
 ∃A c,v= .slice A ps.length c∧ps.length≤c∧c≤maxLen∧(ps= []∨∃b off,A=some ⟨b,off,none⟩∧b<w.heap.size∧∀j (h:j<ps.length),∃u,w.cell? ⟨b,off+j,none⟩=some u∧RB w u ps[j])
def OP(e eP:TypeId)(w:World)(base:Nat)(v:Value)(ps:List (List UInt8)):Prop:=
 ∃us:List (List UInt8×Value),us.map (·.1)=ps∧w.ownsRow base eP 1 v us.length (us.map (·.2))∧∀x∈us,FB e w base x.2 x.1
theorem rp_nil(w:World):RP w (.slice none 0 0) []:=⟨none,0,rfl,Nat.le_refl _,Nat.zero_le _,.inl rfl⟩
theorem rp_below{w w':World}{B:Nat}{v:Value}{ps:List (List UInt8)}(h:RP w v ps)(hb:Below B w w')(hB:w.heap.size≤B):RP w' v ps:=by
 obtain⟨A,c,rfl,h1,h2,h3⟩:=h;refine⟨A,c,rfl,h1,h2,?_⟩;rcases h3 with rfl|⟨b,off,rfl,hb0,hc⟩
 ·exact .inl rfl
 ·refine .inr ⟨b,off,rfl,Nat.lt_of_lt_of_le hb0 hb.size,fun j hj=>?_⟩
  obtain⟨u,a2,a3⟩:=hc j hj;exact⟨u,(hb.cell (p:=⟨b,off+j,none⟩) (by show b<B;omega)).trans a2,a3.below (hb.mono hB)⟩
theorem rp_at{w:World}{A:Option Addr}{n c:Nat}{ps:List (List UInt8)}(h:RP w (.slice A n c) ps){k:Nat}(hk:k<ps.length):
  ∃b off u,A=some ⟨b,off,none⟩∧b<w.heap.size∧w.cell? ⟨b,off+k,none⟩=some u∧RB w u ps[k]:=by
 obtain⟨A',c',he,_,_,h3⟩:=h;injection he with e1 _ _;subst e1;rcases h3 with rfl|⟨b,off,rfl,hb,hc⟩
 ·simp at hk
 ·obtain⟨u,h1,h2⟩:=hc k hk
  exact⟨b,off,u,rfl,hb,h1,h2⟩
theorem OP.nil_(e eP:TypeId)(w:World)(base:Nat):OP e eP w base (.slice none 0 0) []:=⟨[],rfl,World.ownsRow_nil _ _ _ _,fun _ h=>by cases h⟩
theorem OP.rp{e eP:TypeId}{w:World}{base:Nat}{v:Value}{ps:List (List UInt8)}(h:OP e eP w base v ps):RP w v ps:=by
 obtain⟨us,rfl,ho,hf⟩:=h;rcases ho.2 with ⟨rfl,h0⟩|⟨g,cap,cur,rfl,hb,hg,hnc,hcm,hcs,ht⟩
 ·have:us= []:=List.eq_nil_of_length_eq_zero h0
  subst this;exact rp_nil w
 ·refine⟨some ⟨g,0,none⟩,cap,by rw[List.length_map],by rw[List.length_map];exact hnc,hcm,.inr ⟨g,0,rfl,(Array.getElem?_eq_some_iff.1 hg).1,fun j hj=>?_⟩⟩
  rw[List.length_map] at hj;have hc:=ho.cells (g:=g) rfl j us[j].2 (by simp[hj]);rw[Addr.add_lit] at hc;refine⟨us[j].2,hc,?_⟩;have:=(hf us[j] (List.getElem_mem hj)).rb
  simpa using this
theorem OP.shape{e eP:TypeId}{w:World}{base:Nat}{v:Value}{ps:List (List UInt8)}(h:OP e eP w base v ps):∃A c,v= .slice A ps.length c∧(c:Int)≤9223372036854775807∧ps.length≤c:=by
 obtain⟨A,c,h,h1,h2,_⟩:=h.rp;refine⟨A,c,h,?_,h1⟩;unfold maxLen at h2;omega
theorem OP.below{e eP:TypeId}{w w':World}{base:Nat}{v:Value}{ps:List (List UInt8)}(h:OP e eP w base v ps)(hb:Below w.heap.size w w'):OP e eP w' base v ps:=by
 obtain⟨us,h1,ho,hf⟩:=h;exact⟨us,h1,own_below ho hb,fun x hx=>(hf x hx).below hb⟩
theorem OP.base_{e eP:TypeId}{w:World}{base base':Nat}{v:Value}{ps:List (List UInt8)}(h:OP e eP w base v ps)(hb:base'≤base):OP e eP w base' v ps:=by
 obtain⟨us,h1,ho,hf⟩:=h;exact⟨us,h1,own_base ho hb,fun x hx=>(hf x hx).base_ hb⟩
theorem OP.alloc{e eP:TypeId}{w:World}{base:Nat}{v:Value}{ps:List (List UInt8)}(h:OP e eP w base v ps)(o:Obj):OP e eP (w.alloc o) base v ps:=
 h.below ((Below.refl _ _).alloc (Nat.le_refl _) o)
theorem own_grown{w w':World}{base base' size size' n m:Nat}{e e':TypeId}{v r:Value}{xs ys:List Value}(h:w.ownsRow base e size v n xs)(hr:w.ownsRow base' e' size' r m ys)(hne:e≠e')
  (hg:w.grownBy w' r.ownBlock):w'.ownsRow base e size v n xs:=by
 refine⟨h.1,?_⟩;rcases h.2 with h0|⟨g,cap,cur,rfl,hbg,hh,rest⟩
 ·exact .inl h0
 ·refine .inr ⟨g,cap,cur,rfl,hbg,(hg.block g (Array.getElem?_eq_some_iff.1 hh).1 (fun he=>?_)).trans hh,rest⟩
  rcases hr.2 with ⟨rfl,_⟩|⟨g',cap',cur',rfl,_,hg',_⟩
  ·simp[Value.ownBlock] at he
  ·simp[Value.ownBlock] at he
   subst he;rw[hh] at hg';injection hg' with hg';injection hg' with _ h2 _;exact hne h2
theorem OP.grown{e eP e':TypeId}{w w':World}{base base' size m:Nat}{v r:Value}{ps:List (List UInt8)}{ys:List Value}(h:OP e eP w base v ps)(hr:w.ownsRow base' e' size r m ys)(h1:e≠e')(h2:eP≠e')
  (hg:w.grownBy w' r.ownBlock):OP e eP w' base v ps:=by
 obtain⟨us,hu,ho,hf⟩:=h;exact⟨us,hu,own_grown ho hr h2 hg,fun x hx=>(hf x hx).grown hr h1 hg⟩
theorem or_grown{e eR e':TypeId}{w w':World}{base base' size m:Nat}{v r:Value}{rs:List (ByteArray×List UInt8)}{ys:List Value}(h:OR e eR w base v rs)(hr:w.ownsRow base' e' size r m ys)(h1:e≠e')(h2:eR≠e')
  (hg:w.grownBy w' r.ownBlock):OR e eR w' base v rs:=by
 obtain⟨us,hu,ho,hf⟩:=h;exact⟨us,hu,own_grown ho hr h2 hg,fun x hx=>(hf x hx).grown hr h1 hg⟩
theorem OP.push{e eP:TypeId}{w w':World}{base:Nat}{v v' u:Value}{us:List (List UInt8×Value)}{l:List UInt8}(hne:e≠eP)
  (ho:w.ownsRow base eP 1 v us.length (us.map (·.2))) (hf:∀x∈us,FB e w base x.2 x.1) (hu:FB e w base u l)
  (ho':w'.ownsRow base eP 1 v' (us.length+1) (us.map (·.2)++ [u])) (hg:w.grownBy w' v.ownBlock):OP e eP w' base v' (us.map (·.1)++ [l]):=by
 refine⟨us++ [(l,u)],by simp,by rw[List.map_append,List.length_append];exact ho',fun x hx=>?_⟩;rcases List.mem_append.1 hx with hx|hx
 ·exact(hf x hx).grown ho hne hg
 ·simp at hx
  subst hx;exact hu.grown ho hne hg
theorem OP.join{e eP:TypeId}{w w':World}{base:Nat}{v v':Value}{us us2:List (List UInt8×Value)}(hne:e≠eP)
  (ho:w.ownsRow base eP 1 v us.length (us.map (·.2))) (hf:∀x∈us,FB e w base x.2 x.1) (hf2:∀x∈us2,FB e w base x.2 x.1)
  (ho':w'.ownsRow base eP 1 v' (us.length+us2.length) (us.map (·.2)++us2.map (·.2))) (hg:w.grownBy w' v.ownBlock):OP e eP w' base v' (us.map (·.1)++us2.map (·.1)):=by
 refine⟨us++us2,by simp,by rw[List.map_append,List.length_append];exact ho',fun x hx=>?_⟩;rcases List.mem_append.1 hx with hx|hx
 ·exact(hf x hx).grown ho hne hg
 ·exact(hf2 x hx).grown ho hne hg
theorem OP.src{eP:TypeId}{w:World}{base:Nat}{v:Value}{us:List (List UInt8×Value)}{tx e':TypeId}(ho:w.ownsRow base eP 1 v us.length (us.map (·.2)))(hk:Tryz.prog.underlying tx=some (.slice e'))(h1:∀x∈us,x.2.oneCell'=true):
  Src Tryz.prog 1 tx v us.length (us.map (·.2)) w:=by
 rcases ho.2 with ⟨rfl,h0⟩|⟨g,cap,cur,rfl,hb,hg,hnc,hcm,hcs,ht⟩
 ·have:us= []:=List.eq_nil_of_length_eq_zero h0
  subst this;exact Src.ofNil _ hk 0
 ·refine Src.ofSlice _ hk ⟨g,0,none⟩ _ _ _ (by simp) (fun j x hj=>ho.cells (g:=g) rfl j x hj) (fun x hx=>?_)
  obtain⟨y,hy,rfl⟩:=List.mem_map.1 hx;exact h1 y hy
theorem fb_one{e:TypeId}{w:World}{base:Nat}{v:Value}{l:List UInt8}(h:FB e w base v l):v.oneCell'=true:=by
 obtain⟨A,c,rfl⟩:=h.shape;rfl
open Go.RowKit Go.Rst Go.Pg Go.Crc
theorem rr_shape{w:World}{v:Value}{rs:List Rw}(h:RR w v rs):∃A c,v= .slice A rs.length c∧rs.length≤c∧(c:Int)≤9223372036854775807:=by
 obtain⟨A,c,h,h1,h2,_⟩:=h;refine⟨A,c,h,h1,?_⟩;unfold maxLen at h2;omega
theorem rowCells_append(a b:List (ByteArray×List UInt8×Value)):rowCells (a++b)=rowCells a++rowCells b:=by unfold rowCells;rw[List.flatMap_append]
theorem OR.join{e eR:TypeId}{w w':World}{base:Nat}{v v':Value}{us us2:List (ByteArray×List UInt8×Value)}(hne:e≠eR)
  (ho:w.ownsRow base eR 2 v us.length (rowCells us)) (hf:∀x∈us,FB e w base x.2.2 x.2.1) (hf2:∀x∈us2,FB e w base x.2.2 x.2.1)
  (ho':w'.ownsRow base eR 2 v' (us.length+us2.length) (rowCells us++rowCells us2)) (hg:w.grownBy w' v.ownBlock):OR e eR w' base v' (us.map (fun x=>(x.1,x.2.1))++us2.map (fun x=>(x.1,x.2.1))):=by
 refine⟨us++us2,by simp,by rw[List.length_append,rowCells_append];exact ho',fun x hx=>?_⟩;rcases List.mem_append.1 hx with hx|hx
 ·exact(hf x hx).grown ho hne hg
 ·exact(hf2 x hx).grown ho hne hg
theorem OR.src{e eR:TypeId}{w:World}{base base':Nat}{v:Value}{us:List (ByteArray×List UInt8×Value)}{tx e':TypeId}(ho:w.ownsRow base eR 2 v us.length (rowCells us))(hf:∀x∈us,FB e w base' x.2.2 x.2.1)(hk:Tryz.prog.underlying tx=some (.slice e')):
  Src Tryz.prog 2 tx v us.length (rowCells us) w:=by
 rcases ho.2 with ⟨rfl,h0⟩|⟨g,cap,cur,rfl,hb,hg,hnc,hcm,hcs,ht⟩
 ·have:us= []:=List.eq_nil_of_length_eq_zero h0
  subst this;exact Src.ofNil _ hk 0
 ·refine Src.ofSlice _ hk ⟨g,0,none⟩ _ _ _ (rowCells_length us) (fun j x hj=>ho.cells (g:=g) rfl j x hj) (fun x hx=>?_)
  unfold rowCells at hx;obtain⟨y,hy,hx⟩:=List.mem_flatMap.1 hx;simp only[List.mem_cons,List.not_mem_nil,or_false] at hx;rcases hx with rfl|rfl
  ·rfl
  ·exact fb_one (hf y hy)
theorem or_row{e eR:TypeId}{w:World}{base:Nat}{v:Value}{rs:List Rw}(h:OR e eR w base v rs){j:Nat}(hj:j<rs.length):
  ∃g cap u,v= .slice (some ⟨g,0,none⟩) rs.length cap∧g<w.heap.size∧w.cell? ⟨g,j*2,none⟩=some (.string rs[j].1)∧w.cell? ⟨g,j*2+1,none⟩=some u∧FB e w base u rs[j].2:=by
 obtain⟨us,rfl,ho,hf⟩:=h;have hj':j<us.length:=by simpa using hj
 rcases ho.2 with ⟨_,h0⟩|⟨g,cap,cur,rfl,hb,hg,hnc,hcm,hcs,ht⟩
 ·omega
 ·have h1:=rowCells_get us j hj'
  have hcell:∀i,i<us.length*2→w.cell? ⟨g,i,none⟩=(rowCells us)[i]? :=by
   intro i hi;rw[cell_of_row _ g i cur eR (0,0) hg,←ht,List.getElem?_take,if_pos (by omega),Array.getElem?_toList]
  refine⟨g,cap,us[j].2.2,by simp,(Array.getElem?_eq_some_iff.1 hg).1,?_,?_,?_⟩
  ·rw[hcell _ (by omega),h1.1];simp
  ·rw[hcell _ (by omega),h1.2]
  ·have:=hf us[j] (List.getElem_mem hj')
   simpa using this
open Go.RowKit Go.Rst Go.Crc
theorem xor32{a b:Nat}(ha:a<B32)(hb:b<B32):bits .xor .u32 (a:Int) (b:Int)=((a^^^b:Nat):Int):=u32_xor_nat a b ha hb
theorem xor32_poly{a:Nat}(ha:a<B32):bits .xor .u32 (a:Int) 3988292384=((a^^^poly:Nat):Int):=xor32 ha poly_lt
theorem xor8{a b:Nat}(ha:a<256)(hb:b<256):bits .xor .u8 (a:Int) (b:Int)=((a^^^b:Nat):Int):=u8_xor_nat a b ha hb
theorem xor32_ones{a:Nat}(ha:a<B32):bits .xor .u32 (a:Int) 4294967295=((a^^^ones:Nat):Int):=xor32 ha ones_lt
theorem take_snoc(l:List UInt8)(k:Nat)(h:k<l.length):l.take (k+1)=l.take k++ [l[k]]:=by
 rw[List.take_succ_eq_append_getElem h]
theorem craw_take(n:Nat)(l:List UInt8)(k:Nat)(h:k<l.length):craw n (l.take (k+1))=cbyte (craw n (l.take k)) l[k]:=by
 rw[take_snoc l k h,craw_snoc]
theorem own_lit{w:World}{e:TypeId}{l:List UInt8}{cs:Array Value}{n:Nat}(hcs:cs=(bvs l).toArray)(hn:n=l.length)(hm:n≤1000000):
  (w.alloc (.cells cs e)).ownsRow w.heap.size e 1 (.slice (some ⟨w.heap.size,0,none⟩) n n) l.length (bvs l):=by
 subst hcs;subst hn;refine⟨by simp[bvs_length],.inr ⟨w.heap.size,l.length,_,rfl,Nat.le_refl _,heap_alloc_new w _,Nat.le_refl _,by unfold maxLen;omega,by simp[bvs_length],?_⟩⟩;simp only[Nat.mul_one];rw[List.take_of_length_le (by simp[bvs_length])]
theorem tail_cells{n:Nat}(hn:n≤4294967295):#[Value.int .u8 ((n:Int)%256),.int .u8 ((n:Int)/256%256),.int .u8 ((n:Int)/65536%256),.int .u8 ((n:Int)/16777216)]=(bvs (tailL n)).toArray:=by
 have e:(n:Int)/16777216=(n:Int)/16777216%256:=by omega
 rw[e];unfold tailL bvs bv;simp only[List.map_cons,List.map_nil,UInt8.toNat_ofNat'];simp
theorem tail_own{n:Nat}{cs:Array Value}(h:cs=(bvs (tailL n)).toArray)(w:World)(e:TypeId):(w.alloc (.cells cs e)).ownsRow w.heap.size e 1 (.slice (some ⟨w.heap.size,0,none⟩) 4 4) (tailL n).length (bvs (tailL n)):=
 own_lit h (tailL_length n).symm (by decide)
theorem tail_any(n:Nat)(hn:n<B32)(w:World):Calls Tryz.prog 149 #[.int .u32 n] w (NewB 5 w (tailL n)):=by
 have hb:n≤4294967295:=by unfold B32 at hn;omega
 go_enter Tryz.func149,Tryz.ntmps149;go_wp2;go_ret;exact⟨_,rfl,own_lit (l:=tailL n) (tail_cells hb) rfl (by decide),(Below.refl _ _).alloc (Nat.le_refl _) _⟩
theorem step_any(n:Nat)(hn:n<B32)(w:World):Calls Tryz.prog 170 #[.int .u32 n] w fun e w'=>e= .returned (.int .u32 (cstep n:Nat))∧w=w':=by
 have h2:n/2<B32:=Nat.lt_of_le_of_lt (Nat.div_le_self _ _) hn;have hx:=xor32_poly h2;have H:=qH hx;clear hx;have hb:n≤4294967295:=by unfold B32 at hn;omega
 by_cases h:n%2=1
 ·have e:cstep n=n/2^^^poly:=by unfold cstep;rw[if_pos h]
  have E:=qH e;clear e;have hq:((n:Int)%2==1)=true:=by rw[beq_iff_eq];omega
  have h':1≤n%2:=by omega
  clear h h2 hn;go_enter Tryz.func170,Tryz.ntmps170;go_wp2;go_ret;rw[E.out,←H.out];exact⟨rfl,rfl⟩
 ·have e:cstep n=n/2:=by unfold cstep;rw[if_neg h]
  have E:=qH e;clear e;have hq:((n:Int)%2==1)=false:=by rw[beq_eq_false_iff_ne];omega
  clear h h2 hn;go_enter Tryz.func170,Tryz.ntmps170;go_wp2;go_ret;rw[E.out];exact⟨rfl,rfl⟩
theorem eight_any(n:Nat)(hn:n<B32)(w:World):Calls Tryz.prog 169 #[.int .u32 n] w fun e w'=>e= .returned (.int .u32 (ceight n:Nat))∧w=w':=by
 have hlt:=fun k=>csteps_lt k hn
 have H:=qH hlt;clear hlt hn;go_enter Tryz.func169,Tryz.ntmps169;go_wp2
 go_loop [0,3] (fun x i=>∃k:Nat,k≤8∧i= .int .i64 k∧x= .int .u32 (csteps k n:Nat)) (fun _ i=>8-(intOf i).toNat)
 case atStart=>exact⟨0,by omega,rfl,rfl⟩
 case round=>
  obtain⟨k,hk,rfl,rfl⟩:=hrel;by_cases hlt:k<8
  ·go_wp2_with fail
   refine(step_any _ (H.out k) _).mono ?_;rintro e w'⟨rfl,rfl⟩;go_wp2;go_round
   case rel=>exact⟨k+1,by omega,by go_num,by rw[csteps_succ]⟩
   case measure=>simp[intOf];omega
  ·go_wp2
   go_ret;have:k=8:=by omega
   subst this;exact⟨rfl,rfl⟩
theorem refMore_any(n:Nat)(hn:n<B32)(v:Value)(l:List UInt8)(w:World)(hv:RB w v l):
  Calls Tryz.prog 163 #[.int .u32 n,v] w fun e w'=>e= .returned (.int .u32 (cmore n l:Nat))∧w=w':=by
 have hb:n≤4294967295:=by unfold B32 at hn;omega
 have hx0:=xor32_ones hn;have HX:=qH hx0;have HV:=qH hv;obtain⟨A,c,rfl,h1,h2,_⟩:=hv;simp only[maxLen] at h2;clear hx0;go_enter Tryz.func163,Tryz.ntmps163;go_wp2;rw[HX.out]
 go_loop [0,5] (fun x i=>∃k:Nat,k≤l.length∧i= .int .i64 k∧x= .int .u32 (craw (n^^^ones) (l.take k):Nat)) (fun _ i=>l.length-(intOf i).toNat)
 case atStart=>exact⟨0,by omega,rfl,rfl⟩
 case round=>
  obtain⟨k,hk,rfl,rfl⟩:=hrel;have hm:=craw_lt (l.take k) (xor_lt hn ones_lt);by_cases hlt:k<l.length
  ·have hst:=craw_take (n^^^ones) l k hlt
   generalize craw (n^^^ones) (l.take k)=m at *;have HST:=qH hst;obtain⟨b,off,rfl,Hj,hc⟩:=rb_cell HV.out hlt;obtain⟨x,hx⟩:∃x,x=l[k]:=⟨_,rfl⟩
   rw[←hx] at hc HST;have hxl:x.toNat<256:=x.toNat_lt;have hm':m≤4294967295:=by unfold B32 at hm;omega
   have lD:=xor32 hm (byte_lt x);have hy:=xor_lt hm (byte_lt x);obtain⟨y,xE⟩:∃y,y=m^^^x.toNat:=⟨_,rfl⟩
   rw[←xE] at lD hy;have HY:=qH xE;unfold bv at hc;clear hst hx xE;go_wp2;clear lD hc
   go_loop [0,6] (fun z i=>∃j:Nat,j≤8∧i= .int .i64 j∧z= .int .u32 (csteps j y:Nat)) (fun _ i=>8-(intOf i).toNat)
   case atStart=>exact⟨0,by omega,rfl,rfl⟩
   case round=>
    obtain⟨j,hj,rfl,rfl⟩:=hrel;have hs:=csteps_lt j hy;have lG:=csteps_succ j y;by_cases hj8:j<8
    ·generalize csteps j y=z at *
     have hz:z≤4294967295:=by unfold B32 at hs;omega
     have hx:=xor32_poly (a:=z/2) (by unfold B32;omega);have e1:((z/2:Nat):Int)=(z:Int)/2:=by omega
     rw[e1] at hx;by_cases h:z%2=1
     ·have e:cstep z=z/2^^^poly:=by unfold cstep;rw[if_pos h]
      rw[←e,←lG] at hx;have hq:((z:Int)%2==1)=true:=by rw[beq_iff_eq];omega
      have h':1≤z%2:=by omega
      clear h e lG e1;go_wp2;go_round
      case rel=>exact⟨j+1,by omega,by go_num,rfl⟩
      case measure=>simp[intOf];omega
     ·have e:cstep z=z/2:=by unfold cstep;rw[if_neg h]
      rw[e] at lG;have hq:((z:Int)%2==1)=false:=by rw[beq_eq_false_iff_ne];omega
      have Hu:=qH lG;clear h e hx e1 lG;go_wp2;go_round
      case rel=>exact⟨j+1,by omega,by go_num,by rw[Hu.out];rfl⟩
      case measure=>simp[intOf];omega
    ·have e:j=8:=by omega
     have h8:csteps j y=cbyte m x:=by rw[e,HY.out];rfl
     rw[h8];clear h8 e lG hs;go_wp2;go_round
     case rel=>exact⟨k+1,by omega,by go_num,by rw[HST.out]⟩
     case measure=>simp[intOf];omega
  ·have e:k=l.length:=by omega
   have hx:=xor32_ones hm;rw[e,List.take_length] at hx;have HE:=qH hx;have bw:=qH e;clear hx e;go_wp2;go_ret;rw[bw.out,List.take_length,HE.out];exact⟨rfl,rfl⟩
theorem refMore_zero(v:Value)(l:List UInt8)(w:World)(hv:RB w v l):
  Calls Tryz.prog 163 #[.int .u32 0,v] w fun e w'=>e= .returned (.int .u32 (csum l:Nat))∧w=w':=refMore_any 0 (by decide) v l w hv
theorem refSum_any(v:Value)(l:List UInt8)(w:World)(hv:RB w v l):
  Calls Tryz.prog 151 #[v] w fun e w'=>e= .returned (.int .u32 (csum l:Nat))∧w=w':=by
 have HV:=qH hv;clear hv;go_enter Tryz.func151,Tryz.ntmps151;go_wp2_with fail
 refine(refMore_zero v l _ HV.out).mono ?_;rintro e w1⟨rfl,rfl⟩;go_wp2;go_ret;exact⟨rfl,rfl⟩
theorem refSeal_any(v:Value)(l:List UInt8)(w:World)(hv:RB w v l)(hl:l.length≤1000000):
  Calls Tryz.prog 120 #[v] w (NewB 5 w (sealL l)):=by
 have hs:=csum_lt l;have HV:=qH hv;obtain⟨A,c,rfl,_⟩:=hv;go_enter Tryz.func120,Tryz.ntmps120;go_wp2_with fail
 refine(refSum_any _ l _ HV.out).mono ?_;rintro e w1⟨rfl,rfl⟩;have e0:sealL l=l++tailL (csum l):=rfl;generalize csum l=n at *;have E0:=qH e0;clear e0;have hb:n≤4294967295:=by unfold B32 at hs;omega
 have HC:=qH (tail_cells hb);go_wp2_with (at_builtin;refine wpList_own rfl (.tmp 7) (.tmp 8) 46 46 rfl w.heap.size 5 (.int .u8 0) 1 1 Tryz.underlying46 info5 rfl rfl (World.ownsRow_nil _ _ _ _) rfl (HV.out.src Tryz.underlying46) (Below.refl _ _) (Nat.le_refl _) ?_ ?_ ?_ ?_)
 ·unfold maxLen;omega
 ·omega
 ·exact Nat.le_refl _
 ·intro v1 w1 hown ad _
  have hsz:=ad.size;have HO:=qH hown;have HB:=qH ad;clear hown ad;go_wp2_with (at_builtin;(refine wpList_own rfl (.tmp 10) (.tmp 25) 46 46 rfl w.heap.size 5 (.int .u8 0) 1 1 Tryz.underlying46 info5 rfl rfl (HO.out.alloc _) rfl ((RB.own (tail_own HC.out w1 5)).src Tryz.underlying46) (HB.out.alloc HB.out.size _) (Nat.le_refl _) ?_ ?_ ?_ ?_))
  ·rw[tailL_length];unfold maxLen;omega
  ·rw[tailL_length];omega
  ·simp;omega
  ·intro v2 w2 hown2 ag _
   go_wp2;go_ret;refine⟨v2,rfl,?_,ag⟩;rw[E0.out];exact own_cat (by simpa using hown2)
open Go.RowKit Go.Rst
theorem refByte(k:Nat):(128:Int)+(k:Int)%128=((UInt8.ofNat (k%128+128)).toNat:Int):=by
 have:(UInt8.ofNat (k%128+128)).toNat=k%128+128:=byte_val (by omega);rw[this];omega
theorem refNum_any(n:Int)(w:World):Calls Tryz.prog 138 #[.int .i64 n] w (NewB 5 w (numL (clip n))):=by
 have hcl:=clip_le n;have h8:=numL_len8 hcl;have hc:(clip n:Int)=max 0 (min n 9007199254740992):=by unfold clip;omega
 generalize clip n=c at *;have HC:=qH hc;clear hc;rcases(show n<0∨n=0∨(0<n∧n≤9007199254740992)∨9007199254740992<n from by omega) with h|rfl|⟨h,h'⟩|h
 all_goals
  go_enter Tryz.func138,Tryz.ntmps138;go_wp2
  go_loopw [0,3] (fun x b wr=>∃(k:Nat) (acc:List UInt8),(k:Int)≤9007199254740992∧x= .int .i64 k∧acc++numL k=numL c∧wr.ownsRow w.heap.size 5 1 b acc.length (bvs acc)∧Below w.heap.size w wr)
   (fun x _ _=>(intOf x).toNat)
  case atStart=>exact⟨c,[],by omega,by have:=HC.out;go_num,rfl,World.ownsRow_nil _ _ _ _,Below.refl _ _⟩
  case round=>
   obtain⟨k,acc,hk,rfl,heq,hown,ad⟩:=hrel;have hsz:=ad.size;have hlen:acc.length≤7:=by
    have h1:=congrArg List.length heq;rw[List.length_append] at h1;have h2:=numL_pos k;omega
   have H:=qH heq;clear heq;by_cases hlt:128≤k
   ·go_wp2_with (at_builtin;refine wpList_own rfl (.tmp 9) (.tmp 14) 46 46 rfl w.heap.size 5 (.int .u8 0) 1 1 Tryz.underlying46 info5 rfl rfl (hown.alloc _) rfl (src_one wr Tryz.underlying46 5 _ rfl) (ad.alloc ad.size _) (Nat.le_refl _) ?_ ?_ ?_ ?_)
    ·unfold maxLen;omega
    ·omega
    ·simp;omega
    ·intro v' w1 hown' hbel' _
     rw[refByte k] at hown';clear hown ad;go_wp2;go_roundw
     case rel=>exact⟨k/128,acc++ [UInt8.ofNat (k%128+128)],by omega,by go_num,by rw[←H.out,numL_ge hlt,List.append_assoc];rfl,own_snoc hown',hbel'⟩
     case measure=>simp[intOf];omega
   ·go_wp2_with (at_builtin;refine wpList_own rfl (.tmp 18) (.tmp 21) 46 46 rfl w.heap.size 5 (.int .u8 0) 1 1 Tryz.underlying46 info5 rfl rfl (hown.alloc _) rfl (src_one wr Tryz.underlying46 5 _ rfl) (ad.alloc ad.size _) (Nat.le_refl _) ?_ ?_ ?_ ?_)
    ·unfold maxLen;omega
    ·omega
    ·simp;omega
    ·intro v' w1 hown' hbel' _
     go_wp2;go_ret;rw[byte_last (show k<128 by omega)] at hown';have e:numL c=acc++ [UInt8.ofNat k]:=by rw[←H.out,numL_lt (by omega)]
     exact⟨v',rfl,by rw[e];exact own_snoc hown',hbel'⟩
theorem join_any(va vb:Value)(a b:List UInt8)(ha:a.length≤10000000000)(hb:b.length≤10000000000)(w:World)(h1:RB w va a)(h2:RB w vb b):Calls Tryz.prog 139 #[va,vb] w (NewB 5 w (a++b)):=by
 have H1:=qH h1;have H2:=qH h2;obtain⟨A1,c1,rfl,_⟩:=h1;obtain⟨A2,c2,rfl,_⟩:=h2;go_enter Tryz.func139,Tryz.ntmps139;go_wp2_with (at_builtin;refine wpList_own rfl (.tmp 6) (.tmp 7) 46 46 rfl w.heap.size 5 (.int .u8 0) 1 1 Tryz.underlying46 info5 rfl rfl (World.ownsRow_nil _ _ _ _) rfl (H1.out.src Tryz.underlying46) (Below.refl w.heap.size w) (Nat.le_refl _) ?_ ?_ ?_ ?_)
 ·unfold maxLen;omega
 ·omega
 ·exact Nat.le_refl _
 intro v1 w1 hown ad _;have hown':w1.ownsRow w.heap.size 5 1 v1 a.length (bvs a):=by simpa using hown
 have HO:=qH hown';have HB:=qH ad;clear hown hown' ad;go_wp2_with (at_builtin;refine wpList_own (n:=a.length) (xs:=bvs a) rfl (.tmp 9) (.tmp 10) 46 46 rfl w.heap.size 5 (.int .u8 0) 1 1 Tryz.underlying46 info5 rfl rfl HO.out rfl ((H2.out.below HB.out).src Tryz.underlying46) HB.out (Nat.le_refl _) ?_ ?_ ?_ ?_)
 ·unfold maxLen;omega
 ·omega
 ·exact HB.out.size
 intro v2 w2 hown2 ag _;go_wp2;go_ret;exact⟨v2,rfl,own_cat hown2,ag⟩
theorem refText_any(s:ByteArray)(hs:s.size≤1000000000)(w:World):Calls Tryz.prog 140 #[.string s] w (NewB 5 w (textL s.data.toList)):=by
 have e1:clip (s.size:Int)=s.data.toList.length:=by unfold clip;rw[Array.length_toList];show _=s.size;omega
 have sP:=fun W=>refNum_any (s.size:Int) W
 rw[e1] at sP;have h8:=numL_len8 (n:=s.data.toList.length) (by rw[Array.length_toList];show s.size≤_;omega);have hls:s.data.toList.length≤1000000000:=by rw[Array.length_toList];exact hs
 have HN:=qH sP;clear sP e1;go_enter Tryz.func140,Tryz.ntmps140;go_wp2_with fail
 refine(HN.out _).mono ?_;rintro e w1⟨v,rfl,hown,ad⟩;have HR:=qH (RB.own hown);have HB:=qH ad;clear hown ad;go_wp2_with (refine wpList_bytes rfl (.tmp 6) 9 46 5 rfl Tryz.underlying9 Tryz.underlying46 Tryz.underlying5 (by rfl) ?_ ?_)
 ·unfold maxLen;omega
 intro g c w2 bB hb2;have HF:=qH bB.rb;have ae:=qH hb2;clear bB hb2;go_wp2_with fail
 refine(join_any _ _ _ _ (by omega) (by omega) _ (HR.out.below ae.out) HF.out).mono ?_;rintro e w3⟨v3,rfl,am,hb3⟩;have h1:=HB.out.size;have h2:=ae.out.size;go_wp2;go_ret;exact⟨v3,rfl,own_base am (by omega),(HB.out.trans (ae.out.mono h1)).trans (hb3.mono (by omega))⟩
open Go.RowKit Go.Rst Go.Pg Go.Crc
def GivesEnc(w:World)(lev:Int)(rs:List Rw)(e:Ending)(w':World):Prop:=
 ∃v,e= .returned (.tuple #[v,.bool (pageOk lev rs)])∧w'.ownsRow w.heap.size 5 1 v (encL lev rs).length (bvs (encL lev rs))∧Below w.heap.size w w'
theorem encL_not{lev:Int}{rs:List Rw}(h:pageOk lev rs=false):encL lev rs= []:=by unfold encL;simp[h]
theorem GivesEnc.not{w w':World}{lev:Int}{rs:List Rw}(h:pageOk lev rs=false)(hb:Below w.heap.size w w'):GivesEnc w lev rs (.returned (.tuple #[.slice none 0 0,.bool false])) w':=
 ⟨_,by rw[h],by rw[encL_not h];exact World.ownsRow_nil _ _ _ _,hb⟩
theorem GivesEnc.mk{w w':World}{lev:Int}{rs:List Rw}{v:Value}(h:pageOk lev rs=true)(ho:w'.ownsRow w.heap.size 5 1 v (sealL (pageB lev.toNat rs)).length (bvs (sealL (pageB lev.toNat rs))))(hb:Below w.heap.size w w'):
  GivesEnc w lev rs (.returned (.tuple #[v,.bool true])) w':=by
 refine⟨v,by rw[h],?_,hb⟩;unfold encL;rw[if_pos h];exact ho
theorem page_end{lev:Nat}{rs:List Rw}:pageA (UInt8.ofNat lev) (UInt8.ofNat rs.length) (slots rs) (body rs)=pageB lev rs:=rfl
open Go.RowKit Go.Rst
theorem refBytes_any(k:ByteArray)(v:Value)(l:List UInt8)(hk:k.size≤100000000)(hl:l.length≤100000000)(w:World)(hv:RB w v l):Calls Tryz.prog 160 #[.agg #[.string k,v]] w (NewB 5 w (rowL k.data.toList l)):=by
 have hlen:(⟨l.toArray⟩:ByteArray).size≤1000000000:=by simp[ByteArray.size];omega
 have t1:=textL_len (l:=k.data.toList) (by rw[Array.length_toList];show k.size≤_;omega);have t2:=textL_len (l:=l) (by omega);have hW:=hv.alloc (Obj.cells #[Value.string k,v] 78);have hb0:Below w.heap.size w (w.alloc (Obj.cells #[Value.string k,v] 78)):=(Below.refl _ _).alloc (Nat.le_refl _) _;have hs0:w.heap.size<(w.alloc (Obj.cells #[Value.string k,v] 78)).heap.size:=by simp
 have hc0:(w.alloc (Obj.cells #[Value.string k,v] 78)).cell? ⟨w.heap.size,0,none⟩=some (.string k):=by simp
 have hc1:(w.alloc (Obj.cells #[Value.string k,v] 78)).cell? ⟨w.heap.size,1,none⟩=some v:=by simp
 obtain⟨A,c,rfl,h1,h2,_⟩:=hv;unfold maxLen at h2;go_enter Tryz.func160,Tryz.ntmps160;go_wp2_with fail
 generalize w.alloc (Obj.cells #[Value.string k,Value.slice A l.length c] 78)=W at *;refine(refText_any k (by omega) _).mono ?_;rintro e w1⟨v1,rfl,hown,ad⟩;have hy:=(ad.cell (p:=⟨w.heap.size,1,none⟩) hs0).trans hc1;have D8:=str22 (hW.below ad);have HO:=qH hown;have HB:=qH (hb0.trans (ad.mono (Nat.le_of_lt hs0)));clear hown ad hc0 hc1;go_wp2_with fail
 refine(refText_any ⟨l.toArray⟩ hlen _).mono ?_;rintro e w2⟨v2,rfl,hown2,ag⟩;have fQ:=qH hown2;have iO:=qH (own_below HO.out ag);have ae:=qH (HB.out.trans (ag.mono HB.out.size));clear hown2 ag HO D8 hy;go_wp2_with (at_builtin;refine wpList_own rfl (.tmp 12) (.tmp 13) 46 46 rfl w.heap.size 5 (.int .u8 0) 1 1 Tryz.underlying46 info5 rfl rfl (own_base iO.out (Nat.le_of_lt hs0)) rfl ((RB.own fQ.out).src Tryz.underlying46) ae.out (Nat.le_refl _) ?_ ?_ ?_ ?_)
 ·unfold maxLen;omega
 ·omega
 ·exact ae.out.size
 intro v3 w3 am aA _;go_wp2;go_ret;exact⟨v3,rfl,own_cat am,aA⟩
theorem eql_nilB(w:World)(t e:TypeId)(a:Option Addr)(l c:Nat)(h:Tryz.prog.underlying t=some (.slice e)):(binOp .eql t (.slice a l c) (.slice none 0 0)).run Tryz.prog w= .ok (.bool a.isNone) w:=by
 have:=run_equal_slice_nil (P:=Tryz.prog) w t e a l c h;simp[binOp,this]
theorem own_emptyB(w:World)(e:TypeId)(size:Nat):(w.alloc (Obj.cells #[] e)).ownsRow w.heap.size e size (.slice (some ⟨w.heap.size,0,none⟩) 0 0) 0 []:=
 ⟨by simp,.inr ⟨w.heap.size,0,#[],rfl,Nat.le_refl _,heap_alloc_new w _,Nat.le_refl _,Nat.zero_le _,by simp,by simp⟩⟩
theorem cloneB_any(v:Value)(l:List UInt8)(w:World)(h:RB w v l)(hl:l.length≤140737488355328):
  Calls Tryz.prog 69 #[v] w fun e w'=>∃u,e= .returned u∧FB 5 w' w.heap.size u l∧Below w.heap.size w w':=by
 have HS:=qH ((h.alloc (Obj.cells #[] 5)).src (P:=Tryz.prog) Tryz.underlying46);have lR:=qH (show 0+l.length≤maxLen by unfold maxLen;omega);have lU:=qH (show(0+l.length)*1≤140737488355328 by omega);have HO:=qH (own_emptyB w 5 1);obtain⟨A,c,rfl,_,_,h3⟩:=h
 cases A with
 |none=>
  have hl0:l= []:=by
   rcases h3 with h3|⟨b,off,h4,_⟩
   ·exact h3
   ·cases h4
  subst hl0;have e1:(binOp .eql 46 (.slice none 0 c) (.slice none 0 0)).run Tryz.prog w= .ok (.bool true) w:=eql_nilB w 46 5 none 0 c Tryz.underlying46;rw[List.length_nil];clear h3;go_enter Tryz.func69,Tryz.ntmps69;go_wp2;go_ret;exact⟨_,rfl,.inl ⟨rfl,rfl⟩,Below.refl _ _⟩
 |some a=>
  have e1:(binOp .eql 46 (.slice (some a) l.length c) (.slice none 0 0)).run Tryz.prog w= .ok (.bool false) w:=eql_nilB w 46 5 (some a) l.length c Tryz.underlying46;clear h3;go_enter Tryz.func69,Tryz.ntmps69;go_wp2_with (at_builtin;refine wpList_own rfl (.tmp 5) (.tmp 6) 46 46 rfl w.heap.size 5 (.int .u8 0) 1 1 Tryz.underlying46 info5 rfl rfl HO.out rfl HS.out ((Below.refl w.heap.size w).alloc (Nat.le_refl _) _) (Nat.le_refl _) lR.out lU.out (by simp) ?_)
  intro v5 w5 ao aH _;have dK:=qH ao;have ax:=qH aH;obtain⟨A5,c5,rfl,_⟩:=own_shape ao;clear ao aH;go_wp2;go_ret;exact⟨_,rfl,FB.own dK.out,ax.out⟩
theorem rowB_any(key:ByteArray)(v:Value)(l:List UInt8)(w:World)(h:RB w v l)(hl:l.length≤140737488355328):
  Calls Tryz.prog 89 #[.string key,v] w fun e w'=>∃u,e= .returned (.agg #[.string key,u])∧FB 5 w' w.heap.size u l∧Below w.heap.size w w':=by
 have hb0:=(Below.refl w.heap.size w).alloc (Nat.le_refl _) (Obj.cells #[.string ⟨#[]⟩,.slice none 0 0] 78);have hcall:=cloneB_any v l _ (h.alloc (Obj.cells #[.string ⟨#[]⟩,.slice none 0 0] 78)) hl;have HC:=qH hcall;have HB:=qH hb0;obtain⟨A,c,rfl,_⟩:=h;clear hcall hb0;go_enter Tryz.func89,Tryz.ntmps89;go_wp2_with fail
 refine HC.out.mono ?_;rintro e w1⟨u,rfl,bB,ad⟩;have hx0:w1.cell? ⟨w.heap.size,0,none⟩=some (.string ⟨#[]⟩):=(ad.cell (p:=⟨w.heap.size,0,none⟩) (by simp)).trans (by simp);have hx1:w1.cell? ⟨w.heap.size,1,none⟩=some (.slice none 0 0):=(ad.cell (p:=⟨w.heap.size,1,none⟩) (by simp)).trans (by simp);have ii:w1.frozen? ⟨w.heap.size,0,none⟩=false:=(ad.frozen (p:=⟨w.heap.size,0,none⟩) (by simp)).trans (by simp);have eo:w1.frozen? ⟨w.heap.size,1,none⟩=false:=(ad.frozen (p:=⟨w.heap.size,1,none⟩) (by simp)).trans (by simp);have jc:=bB.base_ (base':=w.heap.size+1) (by simp);have HF:=qH jc;have an:=qH (HB.out.trans (ad.mono (by simp)));have hsz:=an.out.size;obtain⟨A1,c1,rfl⟩:=bB.shape;clear bB jc ad HC HB;go_wp2;refine bodyPost_ret (v:= .agg #[.string key,.slice A1 l.length c1]) (by simp[results,Tryz.results89,go_sem,hx0,hx1]) rfl ?_;refine⟨_,rfl,((HF.out.setCell (by simp) _).setCell (by simp) _).base_ (Nat.le_succ _),(an.out.setCell (Nat.le_refl _) _).setCell (Nat.le_refl _) _⟩
open Go.RowKit Go.Rst Go.Pg Go.Crc
theorem rowCells_setK:∀(us:List (ByteArray×List UInt8×Value)) (j:Nat) (h:j<us.length) (k:ByteArray),rowCells (us.set j (k,us[j].2))=(rowCells us).set (j*2) (.string k)
 | [],_,h,_=>by simp at h
 |x::xs,0,_,k=>by simp[rowCells]
 |x::xs,j+1,h,k=>by
  have ih:=rowCells_setK xs j (by simpa using h) k;simp only[rowCells,List.flatMap_cons,List.set_cons_succ,List.getElem_cons_succ,List.cons_append,List.nil_append] at ih⊢;rw[show(j+1)*2=j*2+1+1 from by omega,List.set_cons_succ,List.set_cons_succ,ih]
theorem rowCells_setV:∀(us:List (ByteArray×List UInt8×Value)) (j:Nat) (h:j<us.length) (y:List UInt8×Value),rowCells (us.set j (us[j].1,y))=(rowCells us).set (j*2+1) y.2
 | [],_,h,_=>by simp at h
 |x::xs,0,_,y=>by simp[rowCells]
 |x::xs,j+1,h,y=>by
  have ih:=rowCells_setV xs j (by simpa using h) y;simp only[rowCells,List.flatMap_cons,List.set_cons_succ,List.getElem_cons_succ,List.cons_append,List.nil_append] at ih⊢;rw[show(j+1)*2=(j*2+1)+1 from by omega,List.set_cons_succ,ih]
theorem own_set{w:World}{base n c g:Nat}{e:TypeId}{size:Nat}{xs:List Value}(h:w.ownsRow base e size (.slice (some ⟨g,0,none⟩) n c) n xs)(i:Nat)(u:Value):
  (w.setCell ⟨g,i,none⟩ u).ownsRow base e size (.slice (some ⟨g,0,none⟩) n c) n (xs.set i u):=by
 refine⟨by rw[List.length_set];exact h.1,?_⟩;rcases h.2 with ⟨he,_⟩|⟨g',cap,cur,he,hb,hg,hnc,hcm,hcs,ht⟩
 ·cases he
 ·injection he with he _ e3
  injection he with he;injection he with e1 _ _;subst e1;subst e3;refine .inr ⟨g,c,cur.setIfInBounds i u,rfl,hb,?_,hnc,hcm,by rw[Array.size_setIfInBounds];exact hcs,?_⟩
  ·simp[World.setCell,Array.getElem?_modify,hg]
  ·rw[Array.toList_setIfInBounds,List.take_set,ht]
theorem fb_own{w:World}{base base' n c g:Nat}{e e':TypeId}{size:Nat}{xs:List Value}(h:w.ownsRow base e size (.slice (some ⟨g,0,none⟩) n c) n xs)(hne:e'≠e)(i:Nat)(u:Value){v:Value}{l:List UInt8}(hf:FB e' w base' v l):FB e' (w.setCell ⟨g,i,none⟩ u) base' v l:=by
 refine hf.block_ (fun g' cur fr hg=>(Below.heap_setCell w ⟨g,i,none⟩ u g' (fun hh=>?_)).trans hg);rcases h.2 with ⟨he,_⟩|⟨g2,cap,cur2,he,hb,hg2,_⟩
 ·cases he
 ·injection he with he _ _
  injection he with he;injection he with e1 _ _;subst e1;have hh':g'=g:=hh;subst hh';rw[hg] at hg2;injection hg2 with hg2;injection hg2 with _ h3 _;exact hne h3
theorem or_setK{eR:TypeId}{w:World}{base n c g:Nat}{rs:List Rw}(h:OR 5 eR w base (.slice (some ⟨g,0,none⟩) n c) rs)(hne:(5:TypeId)≠eR)(hn:n=rs.length){j:Nat}(hj:j<rs.length)(k:ByteArray):
  OR 5 eR (w.setCell ⟨g,j*2,none⟩ (.string k)) base (.slice (some ⟨g,0,none⟩) n c) (rs.set j (k,rs[j].2)):=by
 obtain⟨us,rfl,ho,hf⟩:=h;rw[List.length_map] at hn;subst hn;have hj':j<us.length:=by simpa using hj
 refine⟨us.set j (k,us[j].2),?_,?_,fun x hx=>?_⟩
 ·rw[List.map_set];simp
 ·rw[List.length_set,rowCells_setK us j hj' k]
  exact own_set ho _ _
 ·refine fb_own ho hne _ _ ?_
  rcases List.mem_or_eq_of_mem_set hx with hx|hx
  ·exact hf x hx
  ·rw[hx]
   exact hf us[j] (List.getElem_mem hj')
theorem or_setV{eR:TypeId}{w:World}{base n c g:Nat}{rs:List Rw}(h:OR 5 eR w base (.slice (some ⟨g,0,none⟩) n c) rs)(hne:(5:TypeId)≠eR)(hn:n=rs.length){j:Nat}(hj:j<rs.length){u:Value}{l:List UInt8}(hu:FB 5 w base u l):
  OR 5 eR (w.setCell ⟨g,j*2+1,none⟩ u) base (.slice (some ⟨g,0,none⟩) n c) (rs.set j (rs[j].1,l)):=by
 obtain⟨us,rfl,ho,hf⟩:=h;rw[List.length_map] at hn;subst hn;have hj':j<us.length:=by simpa using hj
 refine⟨us.set j (us[j].1,l,u),?_,?_,fun x hx=>?_⟩
 ·rw[List.map_set];simp
 ·rw[List.length_set,rowCells_setV us j hj' (l,u)]
  exact own_set ho _ _
 ·refine fb_own ho hne _ _ ?_
  rcases List.mem_or_eq_of_mem_set hx with hx|hx
  ·exact hf x hx
  ·rw[hx]
   exact hu
theorem or_setR{eR:TypeId}{w:World}{base n c g:Nat}{rs:List Rw}(h:OR 5 eR w base (.slice (some ⟨g,0,none⟩) n c) rs)(hne:(5:TypeId)≠eR)(hn:n=rs.length){j:Nat}(hj:j<rs.length){k:ByteArray}{u:Value}{l:List UInt8}(hu:FB 5 w base u l):
  OR 5 eR ((w.setCell ⟨g,j*2,none⟩ (.string k)).setCell ⟨g,j*2+1,none⟩ u) base (.slice (some ⟨g,0,none⟩) n c) (rs.set j (k,l)):=by
 have h1:=or_setK h hne hn hj k;have h0:=h;obtain⟨us,ah,ho,_⟩:=h0;have eY:us.length=n:=by rw[hn,←ah,List.length_map]
 rw[eY] at ho;have h2:=or_setV h1 hne (by rw[List.length_set];exact hn) (j:=j) (by rw[List.length_set];exact hj) (fb_own ho hne (j*2) (.string k) hu);rw[List.getElem_set_self,List.set_set] at h2;exact h2
theorem or_base{eR:TypeId}{w:World}{base n c g:Nat}{rs:List Rw}(h:OR 5 eR w base (.slice (some ⟨g,0,none⟩) n c) rs):base≤g:=by
 obtain⟨us,_,ho,_⟩:=h;rcases ho.2 with ⟨he,_⟩|⟨g2,cap,cur2,he,hb,_⟩
 ·cases he
 ·injection he with he _ _
  injection he with he;injection he with e1 _ _;subst e1;exact hb
theorem or_frozen{eR:TypeId}{w:World}{base n c g:Nat}{rs:List Rw}(h:OR 5 eR w base (.slice (some ⟨g,0,none⟩) n c) rs)(i:Nat):w.frozen? ⟨g,i,none⟩=false:=by
 obtain⟨us,_,ho,_⟩:=h;rcases ho.2 with ⟨he,_⟩|⟨g2,cap,cur2,he,hb,hg2,_⟩
 ·cases he
 ·injection he with he _ _
  injection he with he;injection he with e1 _ _;subst e1;exact Blk.frozen (t:=eR) (cs:=cur2) hg2 i
def RV(W0 w:World)(v:Value)(rs:List Rw):Prop:=
 ∃A c,v= .slice A rs.length c∧rs.length≤c∧c≤maxLen∧(rs= []∨∃b off,A=some ⟨b,off,none⟩∧b<w.heap.size∧
  ∀j (h:j<rs.length),w.cell? ⟨b,off+j*2,none⟩=some (.string rs[j].1)∧∃u,w.cell? ⟨b,off+j*2+1,none⟩=some u∧RB W0 u rs[j].2)
theorem rb_shape{w:World}{v:Value}{l:List UInt8}(h:RB w v l):∃A c,v= .slice A l.length c:=by
 obtain⟨A,c,h,_⟩:=h;exact⟨A,c,h⟩
open Go.RowKit Go.Rst
theorem getNum_out{l:List UInt8}{p:Int}(h:p<0∨(l.length:Int)<p):getNum l p=(0,0,10):=by
 unfold getNum;rw[gnumF,if_pos (by omega)]
theorem refGetNum_any(v:Value)(l:List UInt8)(p:Int)(w:World)(hv:RB w v l):Calls Tryz.prog 167 #[v,.int .i64 p] w fun e w'=>e= .returned (.tuple #[.int .i64 (getNum l p).1,.int .i64 (getNum l p).2.1,.int .i64 (getNum l p).2.2])∧w=w':=by
 obtain⟨A,c,rfl,hlc,hc,hcells⟩:=hv;have HC:=qH hcells;clear hcells;unfold maxLen at hc;rcases(show p<0∨(0≤p∧(l.length:Int)<p)∨(0≤p∧p≤l.length) from by omega) with hp|⟨hp0,hp⟩|⟨hp0,hp⟩
 ·have E:=qH (getNum_out (l:=l) (p:=p) (.inl hp))
  go_enter Tryz.func167,Tryz.ntmps167;go_wp2
  go_ret3
  rw[E.out];exact⟨rfl,rfl⟩
 ·have E:=qH (getNum_out (l:=l) (p:=p) (.inr hp))
  go_enter Tryz.func167,Tryz.ntmps167;go_wp2
  go_ret3
  rw[E.out];exact⟨rfl,rfl⟩
 ·obtain⟨p,rfl⟩:=Int.eq_ofNat_of_zero_le hp0
  go_enter Tryz.func167,Tryz.ntmps167;go_wp2
  go_loop [7,8,9] (fun n u i=>∃(k acc U:Nat),k≤8∧i= .int .i64 k∧n= .int .i64 acc∧u= .int .i64 U∧U=128^k∧acc<128^k∧p+k≤l.length∧gnumF l (8-k) k acc ((p+k:Nat):Int)=getNum l p)
   (fun _ _ i=>8-(intOf i).toNat)
  case atStart=>exact⟨0,0,1,by omega,rfl,rfl,rfl,rfl,by decide,by omega,rfl⟩
  case round=>
   obtain⟨k,acc,U,hk,rfl,rfl,rfl,hU,hacc,hpk,heq⟩:=hrel;have H:=qH heq;have HA:=qH hacc;have HU:=qH hU;clear heq hacc hU;by_cases hlt:k<8
   ·by_cases hend:p+k=l.length
    ·have e:getNum l p=(0,0,10):=by rw[←H.out,show 8-k=(7-k)+1 from by omega,gnumF,if_pos (.inr (by omega))]
     have E:=qH e;have hb:(((p:Int)+(k:Int))==(l.length:Int))=true:=by rw[beq_iff_eq];omega
     clear e hend;go_wp2
     go_ret3
     rw[E.out];exact⟨rfl,rfl⟩
    ·have hm:p+k<l.length:=by omega
     have hb:(((p:Int)+(k:Int))==(l.length:Int))=false:=by rw[beq_eq_false_iff_ne];omega
     obtain⟨b,off,rfl,aj,hcell⟩:∃b off,A=some ⟨b,off,none⟩∧b<w.heap.size∧∀j (h:j<l.length),w.cell? ⟨b,off+j,none⟩=some (bv l[j]):=by
      rcases HC.out with rfl|h
      ·simp at hm
      ·exact h
     have hc1:=hcell (p+k) hm;obtain⟨d,hd⟩:∃d,d=l[p+k].toNat:=⟨_,rfl⟩
     have hd':d<256:=by rw[hd];exact l[p+k].toNat_lt
     unfold bv at hc1;rw[←hd] at hc1;have HD:=qH hd;clear hd hcell hend;have hgd:(l.getD (Int.toNat ((p+k:Nat):Int)) 0).toNat=d:=by rw[Int.toNat_natCast,List.getD_eq_getElem?_getD,List.getElem?_eq_getElem hm,HD.out];rfl
     have Df:U≤2^49:=by
      rw[HU.out,show(128:Nat)^k=2^(7*k) by rw[Nat.pow_mul]];exact Nat.pow_le_pow_right (by decide) (by omega)
     have qY:d%128*U≤127*2^49:=Nat.mul_le_mul (by omega) Df;have Gh:acc<U:=by rw[HU.out];exact HA.out
     have hpi:(d:Int)%128*(U:Int)=((d%128*U:Nat):Int):=by rw[Int.natCast_mul];rfl
     obtain⟨N,hN⟩:∃N,N=acc+d%128*U:=⟨_,rfl⟩
     have mB:N<128^(k+1):=by
      rw[hN,Nat.pow_succ,←HU.out];have h2:d%128*U≤127*U:=Nat.mul_le_mul_right _ (by omega);omega
     have hstep:gnumF l (8-k) k acc ((p+k:Nat):Int)=if 128≤d then gnumF l (7-k) (k+1) N ((p+k+1:Nat):Int) else if (d=0∧0<k)∨9007199254740992<N then (0,0,11) else ((N:Int),((p+k:Nat):Int)+1,0):=by
      rw[show 8-k=(7-k)+1 from by omega,gnumF,if_neg (by omega),hgd,hN,HU.out];rfl
     rw[hstep] at H;have oB:=qH mB;have hx:(d:Int)%128*(U:Int)=(N:Int)-(acc:Int):=by rw[hpi,hN];omega
     have hNb:N≤2^50+127*2^49:=by omega
     clear hgd HA HD hN mB hstep HC qY hpi;by_cases hge:128≤d
     ·rw[if_pos hge] at H
      go_wp2;go_round
      case rel=>exact⟨k+1,N,U*128,by omega,by go_num,by go_num,by go_num,by rw[HU.out,Nat.pow_succ],oB.out,by omega,by rw[show 8-(k+1)=7-k from by omega];exact H.out⟩
      case measure=>simp[intOf];omega
     ·rw[if_neg hge] at H
      by_cases hz:d=0∧0<k
      ·have E:=qH (show getNum l p=(0,0,11) by rw[←H.out,if_pos (.inl hz)])
       obtain⟨rfl,dt⟩:=hz;clear H;go_wp2
       go_ret3
       rw[E.out];exact⟨rfl,rfl⟩
      ·by_cases hbig:9007199254740992<N
       ·have E:=qH (show getNum l p=(0,0,11) by rw[←H.out,if_pos (.inr hbig)])
        have cA:(9007199254740992:Int)<(N:Int):=by omega
        clear hbig H;rcases(show((d:Int)==0)=false∨(((d:Int)==0)=true∧(k:Int)≤0) from by
         by_cases h:d=0
         ·exact .inr ⟨by simp[h],by omega⟩
         ·exact .inl (by simp;omega)) with hd0|⟨hd0,dt⟩
        all_goals
         go_wp2
         go_ret3
         rw[E.out];exact⟨rfl,rfl⟩
       ·have E:=qH (show getNum l p=((N:Int),((p+k:Nat):Int)+1,0) by rw[←H.out,if_neg (by omega)])
        have cA:(N:Int)≤(9007199254740992:Int):=by omega
        clear hbig H;rcases(show((d:Int)==0)=false∨(((d:Int)==0)=true∧(k:Int)≤0) from by
         by_cases h:d=0
         ·exact .inr ⟨by simp[h],by omega⟩
         ·exact .inl (by simp;omega)) with hd0|⟨hd0,dt⟩
        all_goals
         go_wp2
         go_ret3
         rw[E.out];exact⟨by simp;omega,rfl⟩
   ·go_wp2
    go_ret3
    have e:getNum l p=(0,0,11):=by rw[←H.out,show 8-k=0 from by omega,gnumF]
    rw[e];exact⟨rfl,rfl⟩
theorem refGetText_any(v:Value)(l:List UInt8)(p most:Int)(w:World)(hv:RB w v l):Calls Tryz.prog 166 #[v,.int .i64 p,.int .i64 most] w fun e w'=>e= .returned (.tuple #[.string ⟨(getText l p most).1.toArray⟩,.int .i64 (getText l p most).2.1,.int .i64 (getText l p most).2.2])∧w=w':=by
 have hv0:=hv;obtain⟨A,c,rfl,hlc,hc,hcells⟩:=hv;have HC:=qH hcells;clear hcells;unfold maxLen at hc;have fj:=getNum_spec l p;obtain⟨n,q,er,hg⟩:∃n q er,getNum l p=(n,q,er):=⟨_,_,_,rfl⟩
 have HG:=qH hg;have hcall:=refGetNum_any _ l p w hv0;rw[hg] at hcall fj;have HK:=qH hcall;have HV:=qH hv0;clear hg hcall hv0;rcases fj with ⟨rfl,h1,h2,h3,h4,h5⟩|⟨her,rfl,rfl⟩
 ·replace h4:p<q:=h4
  replace h5:q≤l.length:=h5
  replace h1:0≤n:=h1
  replace h2:n≤9007199254740992:=h2
  by_cases hm:most<n
  ·have E:=qH (show getText l p most=([],0,3) by unfold getText;rw[HG.out];simp[hm])
   go_enter Tryz.func166,Tryz.ntmps166;go_wp2_with fail
   refine HK.out.mono ?_;rintro x w1⟨rfl,rfl⟩;go_wp2
   go_ret3
   rw[E.out];exact⟨rfl,rfl⟩
  ·by_cases hs:(l.length:Int)-q<n
   ·have E:=qH (show getText l p most=([],0,10) by unfold getText;rw[HG.out];simp[hm,hs])
    go_enter Tryz.func166,Tryz.ntmps166;go_wp2_with fail
    refine HK.out.mono ?_;rintro x w1⟨rfl,rfl⟩;go_wp2
    go_ret3
    rw[E.out];exact⟨rfl,rfl⟩
   ·have E:=qH (show getText l p most=((l.drop q.toNat).take n.toNat,q+n,0) by unfold getText;rw[HG.out];simp[hm,hs])
    obtain⟨n,rfl⟩:=Int.eq_ofNat_of_zero_le h1;obtain⟨q,rfl⟩:=Int.eq_ofNat_of_zero_le (show 0≤q by omega);obtain⟨b,off,rfl,hb,_⟩:∃b off,A=some ⟨b,off,none⟩∧b<w.heap.size∧∀j (h:j<l.length),w.cell? ⟨b,off+j,none⟩=some (bv l[j]):=by
     rcases HC.out with rfl|h
     ·simp at h5;omega
     ·exact h
    have hr:RB w (.slice (some ⟨b,off+q,none⟩) n (c-q)) ((l.drop q).take n):=HV.out.cut (by omega);by_cases hcq:c=q
    ·subst hcq
     obtain rfl:n=0:=by omega
     have sD:(convert 46 9 (.slice (some ⟨b,off,none⟩) 0 0)).run Tryz.prog w= .ok (.string ⟨[].toArray⟩) w:=RB.str (P:=Tryz.prog) ⟨_,0,rfl,Nat.le_refl _,Nat.zero_le _,.inl rfl⟩ Tryz.underlying46 Tryz.underlying5 Tryz.underlying9;clear hr HC;go_enter Tryz.func166,Tryz.ntmps166;go_wp2_with fail
     refine HK.out.mono ?_;rintro x w1⟨rfl,rfl⟩;go_wp2
     go_ret3
     rw[E.out];exact⟨rfl,rfl⟩
    ·have hcv:=hr.str (P:=Tryz.prog) (src:=46) (dst:=9) Tryz.underlying46 Tryz.underlying5 Tryz.underlying9
     clear hr HC;go_enter Tryz.func166,Tryz.ntmps166;go_wp2_with fail
     refine HK.out.mono ?_;rintro x w1⟨rfl,rfl⟩;go_wp2
     go_ret3
     rw[E.out];exact⟨rfl,rfl⟩
 ·have E:=qH (show getText l p most=([],0,er) by unfold getText;rw[HG.out];rcases her with rfl|rfl <;>simp)
  have hne:(er !=0)=true:=by rcases her with rfl|rfl <;>rfl
  have sh:(er==0)=false:=by rcases her with rfl|rfl <;>rfl
  have HE:=qH her;clear her;go_enter Tryz.func166,Tryz.ntmps166;go_wp2_with fail
  refine HK.out.mono ?_;rintro x w1⟨rfl,rfl⟩;go_wp2
  go_ret3
  rw[E.out];exact⟨rfl,rfl⟩
end Go.Proofs.YtmbkaedhllfoeaaGreat
