/-
  Texts of the proof, put together.
-/
import Derived.Below
import Derived.Laws.OwnMore
import Derived.Deep.Draws
import Derived.Laws.Rows
import Derived.Test.YtmbkaedhllfoeaaGreatKPC
import Derived.Test.YtmbkaedhllfoeaaGreatKPWr
set_option maxRecDepth 100000
set_option maxHeartbeats 4000000
set_option linter.unusedVariables false
namespace Go.Proofs.YtmbkaedhllfoeaaGreat
open Go.RowKit Go.Rst Go.Crc
theorem info229:(Tryz.prog.info? 229).map (fun i=>(i.zero,i.size,i.bytes))=some (some (.agg (Array.replicate 256 (.int .u32 0))),256,1024):=by kernel_rfl
theorem zero37:∀w,(zeroValue 229).run Tryz.prog w= .ok (.agg (Array.replicate 256 (.int .u32 0))) w:=by
 intro w;obtain⟨i,hi,hz,_,_⟩:=info_parts info229;simp[zeroValue,typeInfo,hi,hz]
theorem pow_xor:∀k<8,∀r<2^k,2^k+r=2^k^^^r:=by decide +kernel
theorem pow_or:∀k<8,∀r<2^k,2^k|||r=2^k+r:=by decide +kernel
theorem shl_pow:∀k<8,IntKind.i64.wrap (1*2^k)=((2^k:Nat):Int):=by decide +kernel
def Tab(w:World)(Z:Array Value)(n:Nat)(wr:World):Prop:=
 ∃cs,Blk wr w.heap.size 229 Z∧Blk wr (w.heap.size+1) 229 cs∧cs.size=256∧(∀j,j<256→∃x:Int,cs[j]? =some (.int .u32 x))∧(∀j,j<n→cs[j]? =some (.int .u32 (ceight j:Nat)))∧Below w.heap.size w wr
theorem Tab.step{w wr:World}{Z cs:Array Value}{n:Nat}(hb0:Blk wr w.heap.size 229 Z)(hb1:Blk wr (w.heap.size+1) 229 cs)(hsz:cs.size=256)
  (db:∀j,j<256→∃x:Int,cs[j]? =some (.int .u32 x)) (hcs:∀j,j<n→cs[j]? =some (.int .u32 (ceight j:Nat))) (ad:Below w.heap.size w wr) (hn:n<256):
  Tab w Z (n+1) (wr.setCell ⟨w.heap.size+1,n,none⟩ (.int .u32 (ceight n:Nat))):=by
 refine⟨_,hb0.far (by simp) _,hb1.set_ n _,by simp[hsz],fun j hj=>?_,fun j hj=>?_,ad.setCell (by simp) _⟩
 ·by_cases h:n=j
  ·subst h
   exact⟨_,by rw[Array.getElem?_setIfInBounds_self_of_lt (by omega)]⟩
  ·rw[Array.getElem?_setIfInBounds_ne h]
   exact db j hj
 ·by_cases h:n=j
  ·subst h
   rw[Array.getElem?_setIfInBounds_self_of_lt (by omega)]
  ·rw[Array.getElem?_setIfInBounds_ne h]
   exact hcs j (by omega)
def IsTab(cs:Array Value):Prop:=cs.size=256∧cs.all (·.oneCell')=true∧∀j,j<256→cs[j]? =some (.int .u32 (ceight j:Nat))
theorem isTab{cs:Array Value}(h:cs.size=256)(hc:∀j,j<256→cs[j]? =some (.int .u32 (ceight j:Nat))):IsTab cs:=by
 refine⟨h,?_,hc⟩;rw[Array.all_eq_true];intro i hi;have:=hc i (by omega);rw[Array.getElem?_eq_getElem hi] at this;injection this with this;rw[this];rfl
theorem info37s{cs:Array Value}(h:cs.size=256):(Tryz.prog.info? 229).map (·.size)=some cs.size:=by
 obtain⟨i,hi,_,hs,_⟩:=info_parts info229;rw[hi,h,Option.map_some,hs]
def TabRet(w:World)(e:Ending)(w':World):Prop:=∃cs,e= .returned (.agg cs)∧IsTab cs∧Below w.heap.size w w'
theorem TabRet.mk{w w':World}{cs:Array Value}(h:IsTab cs)(hb:Below w.heap.size w w'):TabRet w (.returned (.agg cs)) w':=⟨cs,rfl,h,hb⟩
theorem table_any(w:World):Calls Tryz.prog 168 #[] w (TabRet w):=by
 obtain⟨Z,hZ⟩:∃Z,Z=Array.replicate 256 (Value.int .u32 0):=⟨_,rfl⟩
 have z37:=zero37;rw[←hZ] at z37;have HZ:=qH hZ;clear hZ;go_enter Tryz.func168,Tryz.ntmps168;go_wp2
 go_loopw [6] (fun i wr=>∃k:Nat,k≤8∧i= .int .i64 k∧Tab w Z (2^k) wr) (fun i _=>8-(intOf i).toNat)
 case atStart=>
  refine⟨0,by omega,rfl,Z,?_,?_,?_,?_,?_,?_⟩
  ·exact heap_alloc2_old w _ _
  ·exact heap_alloc2_new w _ _
  ·rw[HZ.out];simp
  ·intro j hj
   rw[HZ.out];exact⟨0,by simp[hj]⟩
  ·intro j hj
   obtain rfl:j=0:=by simpa using hj
   rw[HZ.out];simp[ceight_zero]
  ·exact((Below.refl _ _).alloc (Nat.le_refl _) _).alloc (by simp) _
 case round=>
  obtain⟨k,hk,rfl,hT⟩:=hrel;by_cases hlt:k<8
  ·obtain⟨T,oG⟩:∃T,T=2^k:=⟨_,rfl⟩
   have hTs:=shl_pow k hlt;have DJ:=pow_xor k hlt;have D9:=pow_or k hlt;have Fd:2^k≤2^7:=Nat.pow_le_pow_right (by decide) (by omega);have hT0:0<2^k:=Nat.two_pow_pos k;have Fh:2^(k+1)=T+T:=by rw[oG,Nat.pow_succ];omega
   rw[←oG] at hTs DJ D9 Fd hT0 hT;have HX:=qH DJ;have HO:=qH D9;have HN:=qH Fh;have yP:wrap64 ((2:Int)^k)=(T:Int):=by
    have h1:((2^k:Nat):Int)=(2:Int)^k:=by simp
    rw[←h1,←oG];unfold wrap64;omega
   clear DJ D9 Fh hTs oG;have FY:T<B32:=by unfold B32;omega
   have Kw:T≤128:=Fd;have HT:=qH hT;clear Fd hT z37;go_wp2_with fail
   rw[yP];clear yP;refine(eight_any T FY _).mono ?_;rintro e w'⟨rfl,rfl⟩;go_wp2
   go_loopw [15] (fun i wr=>∃r:Nat,r≤T∧i= .int .i64 r∧Tab w Z (T+r) wr) (fun i _=>T-(intOf i).toNat)
   case atStart=>exact⟨0,by omega,rfl,HT.out⟩
   case round=>
    obtain⟨r,hr,rfl,hT⟩:=hrel;clear HT;by_cases hrT:r<T
    ·obtain⟨cs,hb0,hb1,hsz,db,hcs,ad⟩:=hT
     obtain⟨x,hx⟩:=db (T+r) (by omega);have hc:=(hb1.cell r).trans (hcs r (by omega));have hd:=(hb1.cell (T+r)).trans hx;have hf:=hb1.frozen (T+r);have aK:bits .or .i64 (T:Int) (r:Int)=(T:Int)+r:=by
      rw[or_i64 T r (by omega) (by omega),HO.out r hrT];simp
     have hr1:ceight r<B32:=ceight_lt (by unfold B32;omega);have Kd:bits .xor .u32 ((ceight T:Nat):Int) ((ceight r:Nat):Int)=((ceight (T+r):Nat):Int):=by
      rw[xor32 (ceight_lt FY) hr1,←ceight_xor,HX.out r hrT]
     have HA:=qH db;have HC:=qH hcs;have HB:=qH ad;have H0:=qH hb0;have H1:=qH hb1;have jz:=qH hsz;clear db hcs ad hb0 hb1 hsz hx;go_wp2;go_roundw
     case rel=>exact⟨r+1,by omega,by go_num,Tab.step (n:=T+r) H0.out H1.out jz.out HA.out HC.out HB.out (by omega)⟩
     case measure=>simp[intOf];omega
    ·have e:r=T:=by omega
     have hT':Tab w Z (2^(k+1)) wr:=by rw[HN.out];rw[e] at hT;exact hT
     have HT:=qH hT';clear hT hT' e;go_wp2;go_roundw
     case rel=>exact⟨k+1,by omega,by go_num,HT.out⟩
     case measure=>simp[intOf];omega
  ·obtain⟨cs,hb0,hb1,hsz,_,hcs,ad⟩:=hT
   have hI:=isTab hsz (by rw[show k=8 from by omega] at hcs;exact hcs);have HI:=qH hI;have hS:Z.size=cs.size:=by rw[HZ.out,hsz];simp
   have HS:=qH hS;clear hS;have HB:=qH ad;have H0:=qH hb0;have H1:=qH hb1;clear hI ad hcs hb0 hb1 hsz;go_wp2_with (first
    |(refine wpList_load_row rfl 229 (.tmp 1) rfl (w.heap.size+1) rfl 229 cs (0,0) _ H1.out Tryz.underlying229 rfl (info37s HI.out.1) ?_)
    |(refine wpList_store_row rfl 229 (.tmp 0) (.tmp 29) rfl w.heap.size cs rfl rfl 229 Z H0.out (info37s HI.out.1) HS.out HI.out.2.1 ?_))
   have hb':Below w.heap.size w (wr.setRow w.heap.size cs):=
    HB.out.trans ⟨rfl,rfl,rfl,by simp,fun j hj=>setRow_other wr _ j cs (Nat.ne_of_lt hj)⟩
   exact bodyPost_ret (v:= .agg cs) (results_cell_row rfl _ _ w.heap.size 229 cs (0,0) _ rfl (setRow_heap _ _ _ _ _ _ H0.out) Tryz.underlying229 rfl (info37s HI.out.1)) rfl (TabRet.mk HI.out hb')
theorem more_any(n:Nat)(hn:n<B32)(v:Value)(l:List UInt8)(w:World)(hv:RB w v l):
  Calls Tryz.prog 162 #[.int .u32 n,v] w fun e w'=>e= .returned (.int .u32 (cmore n l:Nat))∧Below w.heap.size w w':=by
 obtain⟨Z,hZ⟩:∃Z,Z=Array.replicate 256 (Value.int .u32 0):=⟨_,rfl⟩
 have z37:=zero37;rw[←hZ] at z37;have HZ:=qH hZ;clear hZ;have hb:n≤4294967295:=by unfold B32 at hn;omega
 have hx0:=xor32_ones hn;have HX:=qH hx0;have HV:=qH hv;obtain⟨A,c,rfl,h1,h2,_⟩:=hv;unfold maxLen at h2;clear hx0;go_enter Tryz.func162,Tryz.ntmps162;go_wp2_with fail
 refine(table_any _).mono ?_;rintro e w1⟨cs,rfl,hT,ad⟩;have HT:=qH hT;have hS:Z.size=cs.size:=by rw[HZ.out,hT.1];simp
 have HS:=qH hS;have HB:=qH ad;clear hS hT ad;go_wp2_with (refine wpList_store_row rfl 229 (.tmp 5) (.tmp 8) rfl w1.heap.size cs rfl rfl 229 Z (heap_alloc_new _ _) (info37s HT.out.1) HS.out HT.out.2.1 ?_)
 obtain⟨W2,hW2⟩:∃W2,W2=(w1.alloc (.cells Z 229)).setRow w1.heap.size cs:=⟨_,rfl⟩
 rw[←hW2];have hblk:Blk W2 w1.heap.size 229 cs:=by rw[hW2];exact setRow_heap _ _ _ _ _ _ (heap_alloc_new _ _)
 have ag:Below w.heap.size w W2:=by
  rw[hW2];have:=(HB.out.alloc HB.out.size (.cells Z 229))
  exact this.trans ⟨rfl,rfl,rfl,by simp,fun j hj=>setRow_other _ _ j cs (by have:=HB.out.size;omega)⟩
 have bZ:=HV.out.below ag;obtain⟨g,hg⟩:∃g,g=w1.heap.size:=⟨_,rfl⟩
 rw[←hg] at hblk⊢;have HK:=qH hblk;have ae:=qH ag;have HR:=qH bZ;rw[HX.out];clear hblk ag bZ HB HV HS HZ z37 hg hW2
 go_loop [0,13] (fun x i=>∃k:Nat,k≤l.length∧i= .int .i64 k∧x= .int .u32 (craw (n^^^ones) (l.take k):Nat)) (fun _ i=>l.length-(intOf i).toNat)
 case atStart=>exact⟨0,by omega,rfl,rfl⟩
 case round=>
  obtain⟨k,hk,rfl,rfl⟩:=hrel;have hm:=craw_lt (l.take k) (xor_lt hn ones_lt);by_cases hlt:k<l.length
  ·have hst:=craw_take (n^^^ones) l k hlt
   generalize craw (n^^^ones) (l.take k)=m at *;have HST:=qH hst;obtain⟨b,off,rfl,Hj,hc⟩:∃b off,A=some ⟨b,off,none⟩∧b<W2.heap.size∧W2.cell? ⟨b,off+k,none⟩=some (bv l[k]):=by
    obtain⟨A',c',he,_,_,h3⟩:=HR.out;injection he with e1 e2 e3;subst e1;rcases h3 with h3|⟨b,off,h4,h5,h6⟩
    ·rw[h3] at hlt;simp at hlt
    ·exact⟨b,off,h4,h5,h6 k hlt⟩
   obtain⟨x,hx⟩:∃x,x=l[k]:=⟨_,rfl⟩
   rw[←hx] at hc HST;have hxl:x.toNat<256:=x.toNat_lt;have h8:=xor8 (a:=m%256) (b:=x.toNat) (by omega) hxl;have hj:m%256^^^x.toNat<256:=Nat.xor_lt_two_pow (n:=8) (by omega) hxl;have hct:=cbyte_table m x;obtain⟨j,FP⟩:∃j,j=m%256^^^x.toNat:=⟨_,rfl⟩
   rw[←FP] at h8 hj hct;have hcell:=(HK.out.cell j).trans (HT.out.2.2 j hj);have hm':m≤4294967295:=by unfold B32 at hm;omega
   have lD:=xor32 (a:=ceight j) (b:=m/256) (ceight_lt (by unfold B32;omega)) (by unfold B32;omega);rw[←hct] at lD;have e1:((m%256:Nat):Int)=(m:Int)%256:=by omega
   have e2:((m/256:Nat):Int)=(m:Int)/256:=by omega
   rw[e1] at h8;rw[e2] at lD;unfold bv at hc;clear hst hx FP hct e1 e2 HR HK HT;go_wp2;go_round
   case rel=>exact⟨k+1,by omega,by go_num,by rw[HST.out]⟩
   case measure=>simp[intOf];omega
  ·have e:k=l.length:=by omega
   have hx:=xor32_ones hm;rw[e,List.take_length] at hx;have HE:=qH hx;have bw:=qH e;clear hx e HR HK HT;go_wp2;go_ret;rw[bw.out,List.take_length,HE.out];exact⟨rfl,ae.out⟩
theorem more_zero(v:Value)(l:List UInt8)(w:World)(hv:RB w v l):
  Calls Tryz.prog 162 #[.int .u32 0,v] w fun e w'=>e= .returned (.int .u32 (csum l:Nat))∧Below w.heap.size w w':=more_any 0 (by decide) v l w hv
theorem sum_any(v:Value)(l:List UInt8)(w:World)(hv:RB w v l):
  Calls Tryz.prog 150 #[v] w fun e w'=>e= .returned (.int .u32 (csum l:Nat))∧Below w.heap.size w w':=by
 have HV:=qH hv;clear hv;go_enter Tryz.func150,Tryz.ntmps150;go_wp2_with fail
 refine(more_zero v l _ HV.out).mono ?_;rintro e w1⟨rfl,hb⟩;have HB:=qH hb;clear hb;go_wp2;go_ret;exact⟨rfl,HB.out⟩
end Go.Proofs.YtmbkaedhllfoeaaGreat
