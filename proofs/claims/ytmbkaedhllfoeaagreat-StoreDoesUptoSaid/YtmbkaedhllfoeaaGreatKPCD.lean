/-
  Texts of the proof, put together.
-/
import Derived.RegionTactic
import Derived.ChangeAlike
import Derived.Deep.Draws
import Derived.Deep.WholeRow
import Derived.StillTailTactics
import Derived.Test.YtmbkaedhllfoeaaGreatKPCB
import Derived.Test.YtmbkaedhllfoeaaGreatKPWr
set_option maxRecDepth 100000
set_option maxHeartbeats 4000000
set_option linter.unusedVariables false
namespace Go.Proofs.YtmbkaedhllfoeaaGreat
open Go.RowKit Go.Rst Go.Dv
theorem still_load_mid{P:Program}{ops:Array Oper}{w:World}{Q:Act→Prop}{a:Act}{o:Oper}{rest:List Oper}(hgd:o.guard=none)(ty:TypeId)(x:Operand)(ho:o.op= .load ty x)
  (b off:Nat) (hx:a.eval x= .pointer (some ⟨b,off,none⟩)) (cs:List Value) (d:TypeDesc) (hc:w.rangeAt b off cs) (hu:P.underlying ty=some d) (hd:d.isRow=true) (hi:(P.info? ty).map (·.size)=some cs.length)
  (h:wpStill P ops w Q rest (a.put o.dst (.agg cs.toArray))):wpStill P ops w Q (o::rest) a:=by
 unfold wpStill;rw[if_pos (by simp[Region.wanted,hgd])];unfold Oper.still execOp;simp only[ho,hx,Instr.loadAt,Instr.sureAddr,Sem.run_bind,Sem.run_pure,Result.andThen_ok,run_loadVar_mid w b off ty cs d hc hu hd hi];exact⟨rfl,h⟩
theorem zero123:∀w,(zeroValue 123).run Tryz.prog w= .ok (.agg (#[.int .i64 0]++Array.replicate 64 (.int .u8 0))) w:=by
 intro w;obtain⟨i,hi,hz,_,_⟩:=info_parts info123;simp[zeroValue,typeInfo,hi,hz]
theorem zero121:∀w,(zeroValue 121).run Tryz.prog w= .ok (.agg (Array.replicate 64 (.int .u8 0))) w:=by
 intro w;obtain⟨i,hi,hz,_,_⟩:=info_parts info121;simp[zeroValue,typeInfo,hi,hz]
theorem size68:(Tryz.prog.info? 123).map (·.size)=some 65:=by
 obtain⟨i,hi,_,hs,_⟩:=info_parts info123;rw[hi,Option.map_some,hs]
theorem size66:(Tryz.prog.info? 121).map (·.size)=some 64:=by
 obtain⟨i,hi,_,hs,_⟩:=info_parts info121;rw[hi,Option.map_some,hs]
theorem forget_any{D:Nat→Prop}{w:World}{y:Lay}{F:List (List UInt8)}{L:List Wr}{f:Bool}{a b:Nat}(hr:Raw D w y F L (newL F.length L) f a b)
  (hL:∀x∈L,x.1<F.length∧x.2.length=64) (hF:F.length≤4096) (lH:L.length≤100000):
  Calls Tryz.prog 60 #[.pointer (some ⟨y.g,0,none⟩)] w fun e w'=>e= .returned (.tuple #[])∧Fr D w w'∧Raw D w' {y with A:=none,c:=0} F [] (newL F.length []) f a b:=by
 have c1:=hr.c1;obtain⟨Z,hZ⟩:∃Z,Z=#[Value.int .i64 0]++Array.replicate 64 (Value.int .u8 0):=⟨_,rfl⟩
 have lm:=zero123;rw[←hZ] at lm;have HZ:=qH hZ;have HR:=qH hr;have HL:=qH hL;have HF:=qH hF;clear hZ hr hL hF;go_enter Tryz.func60,Tryz.ntmps60;go_wp2
 go_loopw [9] (fun i wr=>∃k:Nat,k≤L.length∧i= .int .i64 k∧Raw D wr y F L (zeroed (newL F.length L) L k) f a b∧Fr D w wr) (fun i _=>L.length-(intOf i).toNat)
 case atStart=>exact⟨0,Nat.zero_le _,rfl,HR.out,Fr.refl _ _⟩
 case round=>
  obtain⟨k,hk,rfl,hr,hf⟩:=hrel;clear c1;by_cases hlt:k<L.length
  ·obtain⟨gL,hA,iz,iR,lE,hat⟩:=hr.looseAt (fun x hx=>(HL.out x hx).2) hlt
   have hx:=HL.out _ (wat_mem hlt);obtain⟨x,fe⟩:∃x,x=wat L k:=⟨_,rfl⟩
   rw[←fe] at hat hx;have HX:=qH fe;have oU:=qH hat;have l6:=qH (show(Tryz.prog.info? 123).map (·.size)=some (wc x).length by rw[wc_length hx.2];exact size68);have j7:=qH hr;have j5:=qH hf;have ml:=qH (show(Tryz.prog.info? 123).map (·.size)=some (wc x).toArray.size by rw[List.size_toArray,wc_length hx.2];exact size68);have mh:=qH (show Z.size=(wc x).toArray.size by rw[HZ.out];simp[wc_length hx.2]);rw[hA];have F9:=qH hA;have H1:=qH hx;clear fe hat hr hf hA hx;go_wp2_with (first
    |(refine wpList_load_mid rfl 123 (.tmp 11) rfl gL (k*65) rfl (wc x) _ oU.out Tryz.underlying123 rfl l6.out ?_)
    |(refine wpList_store_row rfl 123 (.tmp 3) (.tmp 12) rfl wr.heap.size (wc x).toArray rfl rfl 123 Z (heap_alloc_new wr _) ml.out mh.out (wc_all x) ?_))
   simp only[Act.put];obtain⟨g3,hg3⟩:∃g3,g3=wr.heap.size:=⟨_,rfl⟩
   rw[←hg3];obtain⟨W2,hW2⟩:∃W2,W2=(wr.alloc (Obj.cells Z 123)).setRow g3 (wc x).toArray:=⟨_,rfl⟩
   rw[←hW2];rw[hg3,World.setRow_alloc_new] at hW2;have hr2:Raw D W2 y F L (zeroed (newL F.length L) L k) f a b:=by rw[hW2];exact j7.out.alloc _
   have hx0:W2.cell? ⟨g3,0,none⟩=some (.int .i64 (x.1:Int)):=by
    rw[hW2,hg3,cell_of_row _ wr.heap.size 0 _ 123 (0,0) (heap_alloc_new wr _)];rfl
   have hf2:Fr D w W2:=by rw[hW2];exact j5.out.alloc _
   have c2:=hr2.c2;have hxl:x.1<(zeroed (newL F.length L) L k).length:=by rw[zeroed_length,newL_length];exact H1.out.1
   have rA:((x.1:Nat):Int)<((zeroed (newL F.length L) L k).length:Int):=by omega
   have qE:(0:Int)≤((x.1:Nat):Int):=by omega
   obtain⟨q,hq⟩:∃q,(zeroed (newL F.length L) L k)[x.1]? =some q:=⟨_,List.getElem?_eq_getElem hxl⟩
   have Dk:=hr2.newAt hq;have KF:=hr2.rn.frozenAt x.1;unfold iv at Dk;have cM:=qH hr2;have cJ:=qH hf2;have AU:=qH hW2;have mb:=qH hg3;clear hr2 hf2 hW2 hg3 hq lm hxl;obtain⟨M,hM⟩:∃M,M=zeroed (newL F.length L) L k:=⟨_,rfl⟩
   rw[←hM] at c2 rA;have HM:=qH hM;clear hM
   go_region
   all_goals
    go_wp2;go_roundw
    case rel=>
     refine⟨k+1,by omega,by go_num,?_,?_⟩
     ·have:=cM.out.setNew x.1 0
      have e:zeroed (newL F.length L) L (k+1)=(zeroed (newL F.length L) L k).set x.1 0:=by rw[zeroed,←HX.out]
      rw[e];exact this.same (fun _ _=>rfl) (Nat.le_refl _)
     ·exact(cJ.out.setCell (.inl cM.out.dN) _).trans (E:=fun _=>False) ⟨rfl,rfl,rfl,Nat.le_refl _,fun _ _ _=>rfl⟩ (fun _ h=>h.elim)
    case measure=>simp[intOf];omega
  ·obtain rfl:k=L.length:=by omega
   rw[zeroed_all] at hr;have j7:=qH hr;have j5:=qH hf;have fz:=hr.bd.frozen 1;have c1:=hr.c1;clear hr hf lm;go_wp2
   go_end0
   exact⟨rfl,j5.out.setCell (.inl j7.out.dg) _,j7.out.clear⟩
def NewS(w:World)(u:Value):Prop:=∀k,u.ownBlock=some k→w.heap.size≤k
theorem RB.fr{D:Nat→Prop}{w w':World}{u:Value}{l:List UInt8}(h:RB w u l)(hf:Fr D w w')(hn:l≠ []→∀k,u.ownBlock=some k→¬D k):RB w' u l:=by
 obtain⟨A,c,rfl,h1,h2,h3⟩:=h;refine⟨A,c,rfl,h1,h2,?_⟩;by_cases hl:l= []
 ·exact .inl hl
 rcases h3 with h3|⟨b,off,rfl,hb,hc⟩
 ·exact .inl h3
 ·have e:=hf.block b hb (hn hl b rfl)
  exact .inr ⟨b,off,rfl,Nat.lt_of_lt_of_le hb hf.size,fun j hj=>(World.cell?_of_block (a:=⟨b,off+j,none⟩) e).trans (hc j hj)⟩
theorem RB.blk{w:World}{g:Nat}{t:TypeId}{l:List UInt8}(h:Blk w g t (bvs l).toArray)(hl:l.length≤100000):RB w (.slice (some ⟨g,0,none⟩) l.length l.length) l:=by
 refine⟨some ⟨g,0,none⟩,l.length,rfl,Nat.le_refl _,by unfold maxLen;omega,.inr ⟨g,0,rfl,h.lt,fun j hj=>?_⟩⟩;rw[Nat.zero_add,h.cell,List.getElem?_toArray,bvs_get hj]
def Told(w:World)(l:List UInt8)(e:Ending)(w':World):Prop:=∃u,e= .returned (.tuple #[u,.int .u16 0])∧RB w' u l∧FB 121 w' w.heap.size u l∧NewS w u∧Below w.heap.size w w'
theorem Told.mk{w w':World}{l:List UInt8}{g:Nat}(h:Blk w' g 121 (bvs l).toArray)(hl:l.length=64)(hg:w.heap.size≤g)(hb:Below w.heap.size w w'):Told w l (.returned (.tuple #[.slice (some ⟨g,0,none⟩) 64 64,.int .u16 0])) w':=by
 have:=RB.blk h (by omega);rw[hl] at this;have bB:FB 121 w' w.heap.size (.slice (some ⟨g,0,none⟩) 64 64) l:= .inr ⟨g,64,(bvs l).toArray,(0,0),by rw[hl],hg,h,by omega,by unfold maxLen;omega,by rw[List.toList_toArray,hl,List.take_of_length_le (by rw[bvs_length];omega)]⟩;exact⟨_,rfl,this,bB,fun k hk=>by simp[Value.ownBlock] at hk;omega,hb⟩
theorem read_any{D:Nat→Prop}{w:World}{v:Value}{s:Sim}(k:Nat)(h:Dev D w v s)(hi:k<s.firm.length):
  Calls Tryz.prog 187 #[v,.int .i64 (k:Int)] w (Told w (s.read k)):=by
 have H:=qH h;have hhas:s.has k=true:=Sim.has_iff.2 ⟨by omega,by omega⟩;have HI:=qH hhas;obtain⟨y,rfl,hr,hok,_⟩:=h;have c0:=hr.c0;have qD:=hok.firm_ hi;have hat:=hr.firmAt hok.f hi;obtain⟨d,hd⟩:∃d,d=s.firm.getD k []:=⟨_,rfl⟩
 rw[←hd] at qD hat;obtain⟨Z,hZ⟩:∃Z,Z=Array.replicate 64 (Value.int .u8 0):=⟨_,rfl⟩
 have Kq:=zero121;rw[←hZ] at Kq;have HZ:=qH hZ;have HD:=qH hd;have oU:=qH hat;have HR:=qH hr;have HO:=qH hok;have Hm:=qH qD;have l6:=qH (show(Tryz.prog.info? 121).map (·.size)=some (bvs d).length by rw[bvs_length,qD];exact size66);have ml:=qH (show(Tryz.prog.info? 121).map (·.size)=some (bvs d).toArray.size by rw[List.size_toArray,bvs_length,qD];exact size66);have mh:=qH (show Z.size=(bvs d).toArray.size by rw[hZ];simp[bvs_length,qD]);obtain⟨q,hq⟩:∃q,q=upTo s.loose k s.loose.length:=⟨_,rfl⟩
 have hr2:Raw D ((w.alloc (Obj.cells Z 121)).setRow w.heap.size (bvs d).toArray) y s.firm s.loose (newL s.firm.length s.loose) s.fuse.isSome s.nw s.nf:=by rw[World.setRow_alloc_new];exact hr.alloc _
 have hb2:Blk ((w.alloc (Obj.cells Z 121)).setRow w.heap.size (bvs d).toArray) w.heap.size 121 (bvs d).toArray:=by rw[World.setRow_alloc_new];exact heap_alloc_new w _
 have ad:Below w.heap.size w ((w.alloc (Obj.cells Z 121)).setRow w.heap.size (bvs d).toArray):=by rw[World.setRow_alloc_new];exact(Below.refl _ _).alloc (Nat.le_refl _) _
 have c2:=hr2.c2;have hn:=hr2.newAt (newL_get (L:=s.loose) hi);rw[←hq] at hn;have hnl:(newL s.firm.length s.loose).length=s.firm.length:=newL_length _ _;rw[hnl] at c2;have ae:=qH hb2;have xt:=qH ad;have dt:(0:Int)≤(k:Int):=by omega
 have hk1:(k:Int)<(s.firm.length:Int):=by omega
 cases q with
 |zero=>
  have hn':((w.alloc (Obj.cells Z 121)).setRow w.heap.size (bvs d).toArray).cell? ⟨y.gN,k,none⟩=some (.int .i64 0):=hn;have HE:=qH (show s.read k=d by unfold Sim.read;rw[←hq,if_pos rfl,hd]);clear hr hok qD hat hd hZ hq hr2 hb2 ad hn hnl hhas;rw[HE.out];go_enter Tryz.func187,Tryz.ntmps187;go_wp2_with fail
  go_at_call 67;refine(has_any _ H.out).mono ?_;rintro e w'⟨rfl,rfl⟩;rw[HI.out];go_wp2_with (first
   |(refine wpList_load_mid rfl 121 (.tmp 17) rfl y.gF (k*64) rfl (bvs d) _ oU.out Tryz.underlying121 rfl l6.out ?_)
   |(refine wpList_store_row rfl 121 (.tmp 6) (.tmp 18) rfl w.heap.size (bvs d).toArray rfl rfl 121 Z (heap_alloc_new w _) ml.out mh.out (bvs_all d) ?_))
  go_ret2
  exact Told.mk ae.out Hm.out (Nat.le_refl _) xt.out
 |succ n=>
  have hn':((w.alloc (Obj.cells Z 121)).setRow w.heap.size (bvs d).toArray).cell? ⟨y.gN,k,none⟩=some (.int .i64 ((n:Int)+1)):=hn;have hle:=upTo_le s.loose k s.loose.length;rw[←hq] at hle;have G5:n<s.loose.length:=by omega
  have Hp:=hok.w;obtain⟨gL,hA,iz,iR,lE,so⟩:=hr2.looseAt (fun x hx=>(hok.l x hx).2) G5;have hx:=hok.wat_ G5;obtain⟨x,fe⟩:∃x,x=wat s.loose n:=⟨_,rfl⟩
  rw[←fe] at so hx;have HE:=qH (show s.read k=x.2 by unfold Sim.read;rw[←hq,if_neg (by omega),fe];rfl);have hx1:((w.alloc (Obj.cells Z 121)).setRow w.heap.size (bvs d).toArray).rangeAt gL (n*65+1) (bvs x.2):=fun j v hv=>by
   have:=so (j+1) v (by exact hv);rw[Nat.add_assoc,Nat.add_comm 1 j];exact this
  have c1:=hr2.c1;rw[hA] at c1;have zj:=qH hx1;have If:=qH hx;have HS:=qH (show(Tryz.prog.info? 121).map (·.size)=some (bvs x.2).length by rw[bvs_length,hx.2];exact size66);have J0:=qH (show(Tryz.prog.info? 121).map (·.size)=some (bvs x.2).toArray.size by rw[List.size_toArray,bvs_length,hx.2];exact size66);have Ka:=qH (show(bvs d).toArray.size=(bvs x.2).toArray.size by simp[bvs_length,qD,hx.2]);have uR:(n:Int)≤100000:=by omega
  clear hr hok qD hat hd hZ hq hr2 hb2 ad hn hnl hhas hle so hx fe hx1 hA Hp;rw[HE.out];go_enter Tryz.func187,Tryz.ntmps187;go_wp2_with fail
  go_at_call 67;refine(has_any _ H.out).mono ?_;rintro e w'⟨rfl,rfl⟩;rw[HI.out];go_wp2_with (first
   |(refine wpList_load_mid rfl 121 (.tmp 17) rfl y.gF (k*64) rfl (bvs d) _ oU.out Tryz.underlying121 rfl l6.out ?_)
   |(refine wpList_store_row rfl 121 (.tmp 6) (.tmp 18) rfl w.heap.size (bvs d).toArray rfl rfl 121 Z (heap_alloc_new w _) ml.out mh.out (bvs_all d) ?_)
   |(refine wpList_load_mid rfl 121 (.tmp 35) rfl gL (n*65+1) rfl (bvs x.2) _ zj.out Tryz.underlying121 rfl HS.out ?_)
   |(refine wpList_store_row rfl 121 (.tmp 6) (.tmp 36) rfl w.heap.size (bvs x.2).toArray rfl rfl 121 (bvs d).toArray ae.out J0.out Ka.out (bvs_all x.2) ?_))
  go_ret2
  exact Told.mk (setRow_heap _ _ _ _ _ _ ae.out) If.out.2 (Nat.le_refl _) (xt.out.trans ⟨rfl,rfl,rfl,by simp,fun j hj=>setRow_other _ _ j _ (by omega)⟩)
def KB(D:Nat→Prop)(w:World)(v:Value)(K:List Bool):Prop:=
 ∃A c,v= .slice A K.length c∧(K= []∨∃b off,A=some ⟨b,off,none⟩∧b<w.heap.size∧¬D b∧∀j (h:j<K.length),w.cell? ⟨b,off+j,none⟩=some (.bool K[j]))
theorem KB.fr{D E:Nat→Prop}{w w':World}{v:Value}{K:List Bool}(h:KB D w v K)(hf:Fr E w w')(hE:∀k,k<w.heap.size→E k→D k):KB D w' v K:=by
 obtain⟨A,c,rfl,h1⟩:=h;refine⟨A,c,rfl,?_⟩;rcases h1 with h1|⟨b,off,rfl,hb,hn,hc⟩
 ·exact .inl h1
 ·exact .inr ⟨b,off,rfl,Nat.lt_of_lt_of_le hb hf.size,hn,fun j hj=>(World.cell?_of_block (a:=⟨b,off+j,none⟩) (hf.block b hb (fun he=>hn (hE b hb he)))).trans (hc j hj)⟩
theorem crash_raw{D:Nat→Prop}{w:World}{y:Lay}{F:List (List UInt8)}{L:List Wr}{f:Bool}{a b:Nat}(kv:Value)(K:List Bool)(hr:Raw D w y F L (newL F.length L) f a b)
  (hF:∀x∈F,x.length=64) (hL:∀x∈L,x.1<F.length∧x.2.length=64) (qK:F.length≤4096) (lH:L.length≤100000) (hK:KB D w kv K):
  Calls Tryz.prog 21 #[.pointer (some ⟨y.g,0,none⟩),kv] w fun e w'=>e= .returned (.tuple #[])∧Fr D w w'∧Raw D w' {y with A:=none,c:=0} (kept F L K L.length) [] (newL F.length []) false a b:=by
 have qI:=qH hK;obtain⟨AK,cK,rfl,_⟩:=hK;have c1:=hr.c1;obtain⟨Z,hZ⟩:∃Z,Z=#[Value.int .i64 0]++Array.replicate 64 (Value.int .u8 0):=⟨_,rfl⟩
 have lm:=zero123;rw[←hZ] at lm;have HZ:=qH hZ;have HR:=qH hr;have HL:=qH hL;have Ej:=qH hF;have HF:=qH qK;clear hZ hr hL hF qK;obtain⟨nK,uh⟩:∃nK,nK=K.length:=⟨_,rfl⟩
 rw[←uh];have zh:=qH uh;clear uh;go_enter Tryz.func21,Tryz.ntmps21;go_wp2
 go_loopw [13] (fun i wr=>∃k:Nat,k≤L.length∧i= .int .i64 k∧Raw D wr y (kept F L K k) L (newL F.length L) f a b∧Fr D w wr) (fun i _=>L.length-(intOf i).toNat)
 case atStart=>exact⟨0,Nat.zero_le _,rfl,HR.out,Fr.refl _ _⟩
 case round=>
  obtain⟨k,hk,rfl,hr,hf⟩:=hrel;clear c1;by_cases hlt:k<L.length
  ·obtain⟨gL,hA,iz,iR,lE,hat⟩:=hr.looseAt (fun x hx=>(HL.out x hx).2) hlt
   have hx:=HL.out _ (wat_mem hlt);obtain⟨x,fe⟩:∃x,x=wat L k:=⟨_,rfl⟩
   rw[←fe] at hat hx;have HX:=qH fe;have oU:=qH hat;have l6:=qH (show(Tryz.prog.info? 123).map (·.size)=some (wc x).length by rw[wc_length hx.2];exact size68);have j7:=qH hr;have j5:=qH hf;have ml:=qH (show(Tryz.prog.info? 123).map (·.size)=some (wc x).toArray.size by rw[List.size_toArray,wc_length hx.2];exact size68);have mh:=qH (show Z.size=(wc x).toArray.size by rw[HZ.out];simp[wc_length hx.2]);have o8:=qH (kept_all K Ej.out (fun x hx=>(HL.out x hx).2) k hk);have Ds:=qH (kept_length F L K k);rw[hA];have F9:=qH hA;have H1:=qH hx;clear fe hat hr hA hx;have Fe:=qI.out.fr hf (fun _ _ h=>h);rw[←zh.out] at Fe;clear hf;have eD:(K.getD k false=false∧(¬k<nK∨(k<nK∧∃b off,AK=some ⟨b,off,none⟩∧b<wr.heap.size∧wr.cell? ⟨b,off+k,none⟩=some (.bool false))))∨
     (K.getD k false=true∧k<nK∧∃b off,AK=some ⟨b,off,none⟩∧b<wr.heap.size∧wr.cell? ⟨b,off+k,none⟩=some (.bool true)):=by
    obtain⟨A',c',he,h1⟩:=Fe;injection he with he _ _;by_cases hkn:k<nK
    ·have pH:k<K.length:=by rw[←zh.out];exact hkn
     have e:K.getD k false=K[k]:=by rw[List.getD_eq_getElem?_getD,List.getElem?_eq_getElem pH];rfl
     rcases h1 with h1|⟨b,off,h1,hb,_,hc⟩
     ·rw[h1] at pH;simp at pH
     ·have cj:=hc k pH
      cases hv:K[k] with
      |false=>rw[hv] at cj;exact .inl ⟨by rw[e,hv],.inr ⟨hkn,b,off,by rw[he,h1],hb,cj⟩⟩
      |true=>rw[hv] at cj;exact .inr ⟨by rw[e,hv],hkn,b,off,by rw[he,h1],hb,cj⟩
    ·exact .inl ⟨by rw[List.getD_eq_getElem?_getD,List.getElem?_eq_none (by rw[←zh.out];omega)];rfl,.inl hkn⟩
   clear Fe;rcases eD with ⟨hv,eD⟩|⟨hv,hkn,bK,oK,hAK,hbK,hcK⟩
   ·have e:kept F L K (k+1)=kept F L K k:=by rw[kept,if_neg (by rw[hv];decide)]
    have HE:=qH e;clear e hv;rcases eD with hkn|⟨hkn,bK,oK,hAK,hbK,hcK⟩
    ·go_wp2_with (first
      |(refine wpList_load_mid rfl 123 (.tmp 16) rfl gL (k*65) rfl (wc x) _ oU.out Tryz.underlying123 rfl l6.out ?_)
      |(refine wpList_store_row rfl 123 (.tmp 5) (.tmp 17) rfl wr.heap.size (wc x).toArray rfl rfl 123 Z (heap_alloc_new wr _) ml.out mh.out (wc_all x) ?_))
     go_roundw
     case rel=>
      refine⟨k+1,by omega,by go_num,?_,?_⟩
      ·rw[HE.out,World.setRow_alloc_new];exact j7.out.alloc _
      ·rw[World.setRow_alloc_new];exact j5.out.alloc _
     case measure=>simp[intOf];omega
    ·subst hAK
     have hb0:bK<(wr.alloc (Obj.cells Z 123)).heap.size:=by simp;omega
     have sk:((wr.alloc (Obj.cells Z 123)).setRow wr.heap.size (wc x).toArray).cell? ⟨bK,oK+k,none⟩=some (.bool false):=by
      rw[World.setRow_alloc_new];exact(World.cell?_of_block (a:=⟨bK,oK+k,none⟩) (Below.heap_alloc wr _ bK hbK)).trans hcK
     go_wp2_with (first
      |(refine wpList_load_mid rfl 123 (.tmp 16) rfl gL (k*65) rfl (wc x) _ oU.out Tryz.underlying123 rfl l6.out ?_)
      |(refine wpList_store_row rfl 123 (.tmp 5) (.tmp 17) rfl wr.heap.size (wc x).toArray rfl rfl 123 Z (heap_alloc_new wr _) ml.out mh.out (wc_all x) ?_))
     go_roundw
     case rel=>
      refine⟨k+1,by omega,by go_num,?_,?_⟩
      ·rw[HE.out,World.setRow_alloc_new];exact j7.out.alloc _
      ·rw[World.setRow_alloc_new];exact j5.out.alloc _
     case measure=>simp[intOf];omega
   ·have e:kept F L K (k+1)=(kept F L K k).set x.1 x.2:=by rw[kept,if_pos hv,←HX.out]
    have HE:=qH e;clear e hv;subst hAK;have sk:((wr.alloc (Obj.cells Z 123)).setRow wr.heap.size (wc x).toArray).cell? ⟨bK,oK+k,none⟩=some (.bool true):=by
     rw[World.setRow_alloc_new];exact(World.cell?_of_block (a:=⟨bK,oK+k,none⟩) (Below.heap_alloc wr _ bK hbK)).trans hcK
    go_wp2_with (first
     |(refine wpList_load_mid rfl 123 (.tmp 16) rfl gL (k*65) rfl (wc x) _ oU.out Tryz.underlying123 rfl l6.out ?_)
     |(refine wpList_store_row rfl 123 (.tmp 5) (.tmp 17) rfl wr.heap.size (wc x).toArray rfl rfl 123 Z (heap_alloc_new wr _) ml.out mh.out (wc_all x) ?_))
    try simp only[Act.put]
    obtain⟨g3,hg3⟩:∃g3,g3=wr.heap.size:=⟨_,rfl⟩
    rw[←hg3] at sk⊢;obtain⟨W2,hW2⟩:∃W2,W2=(wr.alloc (Obj.cells Z 123)).setRow g3 (wc x).toArray:=⟨_,rfl⟩
    rw[←hW2] at sk⊢;rw[hg3,World.setRow_alloc_new] at hW2;have hr2:Raw D W2 y (kept F L K k) L (newL F.length L) f a b:=by rw[hW2];exact j7.out.alloc _
    have hb3:Blk W2 g3 123 (wc x).toArray:=by rw[hW2,hg3];exact heap_alloc_new wr _
    have hx0:W2.cell? ⟨g3,0,none⟩=some (.int .i64 (x.1:Int)):=hb3.cell 0;have hx1:W2.rangeAt g3 1 (bvs x.2):=fun j v hv=>by
     rw[hb3.cell,Nat.add_comm,List.getElem?_toArray];exact hv
    have hf2:Fr D w W2:=by rw[hW2];exact j5.out.alloc _
    have c0:=hr2.c0;have hxl:x.1<(kept F L K k).length:=by rw[Ds.out];exact H1.out.1
    have rA:((x.1:Nat):Int)<((kept F L K k).length:Int):=by omega
    have qE:(0:Int)≤((x.1:Nat):Int):=by omega
    have nc:=hr2.firmThere o8.out hxl;have xP:=qH nc;have cM:=qH hr2;have cJ:=qH hf2;have tK:=qH hxl;have mb:=qH hg3;have zj:=qH hx1;have jW:=qH (show(Tryz.prog.info? 121).map (·.size)=some (bvs x.2).length by rw[bvs_length,H1.out.2];exact size66);clear hr2 hf2 hW2 nc lm hb3 hx1 hg3;obtain⟨M,hM⟩:∃M,M=kept F L K k:=⟨_,rfl⟩
    rw[←hM] at c0 rA;have HM:=qH hM;clear hM hxl
    go_still_tail 9,(by kernel_rfl)
    refine still_load_mid rfl 121 (.tmp 34) rfl g3 1 rfl (bvs x.2) _ zj.out Tryz.underlying121 rfl jW.out ?_;try simp only[Act.put,zA,zB,zC]
    repeat still_step
    refine wpStill_nil ?_;go_wp2_with (refine wpList_store_mid rfl 121 (.tmp 36) (.tmp 35) rfl y.gF (x.1*64) (bvs x.2).toArray rfl rfl (by rw[List.size_toArray,bvs_length,H1.out.2];exact xP.out) (by rw[List.size_toArray];exact jW.out) (bvs_all _) ?_)
    go_roundw
    case rel=>
     refine⟨k+1,by omega,by go_num,?_,?_⟩
     ·rw[HE.out]
      exact(cM.out.same (w':=W2.drew) (fun _ _=>rfl) (Nat.le_refl _)).setFirm o8.out tK.out H1.out.2
     ·exact(cJ.out.drew).setCells (.inl cM.out.dF) _ _
    case measure=>simp[intOf];omega
  ·obtain rfl:k=L.length:=by omega
   have hr':Raw D wr y (kept F L K L.length) L (newL (kept F L K L.length).length L) f a b:=by rw[kept_length];exact hr
   have j7:=qH hr';have j5:=qH hf;have o8:=qH (show ∀x∈L,x.1<(kept F L K L.length).length∧x.2.length=64 by rw[kept_length];exact HL.out);have t0:=qH (show(kept F L K L.length).length≤4096 by rw[kept_length];exact HF.out);clear hr hr' hf lm;go_wp2_with fail
   go_at_call 60;refine(forget_any j7.out o8.out t0.out lH).mono ?_;rintro e w2⟨rfl,hf2,hr2⟩;have fz:=hr2.bd.frozen 3;have c3:=hr2.c3;rw[kept_length] at hr2;have cM:=qH hr2;have cJ:=qH hf2;clear hr2 hf2;go_wp2
   go_end0
   refine⟨rfl,(j5.out.trans cJ.out (fun _ h=> .inl h)).setCell (.inl j7.out.dg) _,?_⟩;exact cM.out.setFlag false
theorem crash_any{D:Nat→Prop}{w:World}{v:Value}{s:Sim}(kv:Value)(K:List Bool)(h:Dev D w v s)(hK:KB D w kv K):
  Calls Tryz.prog 21 #[v,kv] w fun e w'=>e= .returned (.tuple #[])∧Fr D w w'∧Dev D w' v (s.crash K):=by
 obtain⟨y,rfl,hr,hok,hf⟩:=h;refine(crash_raw kv K hr hok.f hok.l hok.n hok.w hK).mono ?_;rintro e w'⟨rfl,h1,h2⟩;refine⟨rfl,h1,{y with A:=none,c:=0},rfl,?_,hok.crash K,fun k hk=>by cases hk⟩;show Raw D w' _ (kept s.firm s.loose K s.loose.length) [] (newL (kept s.firm s.loose K s.loose.length).length []) false s.nw s.nf;rw[kept_length];exact h2
theorem addW(a b:Nat)(ha:a≤top64)(hb:b≤top64):∀w,(binOp .add 70 (.complex .f64 a b) (.complex .f64 4607182418800017408 0)).run Tryz.prog w= .ok (.complex .f64 (fadd a one64) (fadd b 0)) w:=fun w=>
 run_complex_sum w .add (.inl rfl) 70 .f64 _ _ _ _ _ _ (by unfold cSumBits;rw[(add_ok ha (by decide)).1,(add_ok hb (Nat.zero_le _)).1];rfl)
theorem addF(a b:Nat)(ha:a≤top64)(hb:b≤top64):∀w,(binOp .add 70 (.complex .f64 a b) (.complex .f64 0 4607182418800017408)).run Tryz.prog w= .ok (.complex .f64 (fadd a 0) (fadd b one64)) w:=fun w=>
 run_complex_sum w .add (.inl rfl) 70 .f64 _ _ _ _ _ _ (by unfold cSumBits;rw[(add_ok ha (Nat.zero_le _)).1,(add_ok hb (by decide)).1];rfl)
theorem wpList_cadd{P:Program}{w:World}{ops:Array Oper}{rest:List Oper}{o:Oper}{a:Act}{Q:Exit→Act→World→Prop}(hgd:o.guard=none)(x y:Operand)(ho:o.op= .binOp .add 70 x y 70)
  {u v r:Value} (hx:a.eval x=u) (hy:a.eval y=v) (hrun:∀w,(binOp .add 70 u v).run P w= .ok r w) (h:wpList P ops Q rest (a.put o.dst r) w):wpList P ops Q (o::rest) a w:=by
 refine wpList_plain hgd fun K hK=>?_
 unfold Oper.wp execOp;have e:(eqGuard .add 70 x y u v).run P w= .ok () w:=rfl;simp only[ho,hx,hy,Sem.run_bind,e,hrun,Result.andThen_ok,Sem.run_pure];exact hK _ _ h
theorem flush_any{D:Nat→Prop}{w:World}{v:Value}{s:Sim}(h:Dev D w v s):
  Calls Tryz.prog 40 #[v] w fun e w'=>e= .returned (.tuple #[])∧Fr D w w'∧Dev D w' v s.flush:=by
 have H:=qH h;obtain⟨y0,rfl,_⟩:=h
 cases hg:s.goes with
 |false=>
  have HG:=qH hg;clear hg;go_enter Tryz.func40,Tryz.ntmps40;go_wp2_with fail
  go_at_call 73;refine(passes_any H.out).mono ?_;rintro e w1⟨rfl,hf,hd⟩;rw[HG.out] at hd⊢;have HF:=qH hf;have HD:=qH hd;clear hf hd;go_wp2;refine bodyPost_ret (v:= .tuple #[]) (results_none rfl _ _ _) rfl ?_;refine⟨rfl,HF.out,?_⟩;have e:s.flush=s:=by simp[Sim.flush,HG.out]
  rw[e];exact HD.out
 |true=>
  have HG:=qH hg;clear hg;go_enter Tryz.func40,Tryz.ntmps40;go_wp2_with fail
  go_at_call 73;refine(passes_any H.out).mono ?_;rintro e w1⟨rfl,hf,hd⟩;rw[HG.out] at hd⊢;rw[if_pos rfl] at hd;obtain⟨y,hy,hr,hok,dQ⟩:=hd;have hy':y0.g=y.g:=by injection hy with hy;injection hy with hy;injection hy
  rw[hy'];have HY:=qH hy';have HF:=qH hf;have lK:=qH hok;have yk:=qH dQ;clear hy hy' hf dQ;obtain⟨S,hS⟩:∃S,S=s.burnt:=⟨_,rfl⟩
  have e1:S.firm=s.firm:=by rw[hS];rfl
  have e2:S.loose=s.loose:=by rw[hS];rfl
  have e3:S.nw=s.nw:=by rw[hS];rfl
  have e4:S.nf=s.nf:=by rw[hS];rfl
  have fl:Raw D w1 y s.firm s.loose (newL s.firm.length s.loose) s.burnt.fuse.isSome s.nw s.nf:=hr;clear hr e1 e2 e3 e4 hS;obtain⟨F,hF⟩:∃F,F=s.firm:=⟨_,rfl⟩
  obtain⟨L,hL⟩:∃L,L=s.loose:=⟨_,rfl⟩
  obtain⟨f,hf⟩:∃f,f=s.burnt.fuse.isSome:=⟨_,rfl⟩
  rw[←hF,←hL,←hf] at fl;have Ej:=qH (show ∀x∈F,x.length=64 by rw[hF];exact hok.f);have HL:=qH (show ∀x∈L,x.1<F.length∧x.2.length=64 by rw[hF,hL];exact hok.l);have rE:=qH (show F.length≤4096 by rw[hF];exact hok.n);have lH:L.length≤100000:=by rw[hL];exact hok.w
  have IG:=qH hF;have J7:=qH hL;have Id:=qH hf;have c1:=fl.c1;obtain⟨Z,hZ⟩:∃Z,Z=#[Value.int .i64 0]++Array.replicate 64 (Value.int .u8 0):=⟨_,rfl⟩
  have lm:=zero123;rw[←hZ] at lm;have HZ:=qH hZ;have HR:=qH fl;clear hZ fl hF hL hf hok;obtain⟨K,hK⟩:∃K,K=List.replicate L.length true:=⟨_,rfl⟩
  have HK:=qH hK;clear hK;go_wp2
  go_loopw [16] (fun i wr=>∃k:Nat,k≤L.length∧i= .int .i64 k∧Raw D wr y (kept F L K k) L (newL F.length L) f s.nw s.nf∧Fr D w1 wr) (fun i _=>L.length-(intOf i).toNat)
  case atStart=>exact⟨0,Nat.zero_le _,rfl,HR.out,Fr.refl _ _⟩
  case round=>
   obtain⟨k,hk,rfl,hr,hf⟩:=hrel;clear c1;by_cases hlt:k<L.length
   ·obtain⟨gL,hA,iz,iR,lE,hat⟩:=hr.looseAt (fun x hx=>(HL.out x hx).2) hlt
    have hx:=HL.out _ (wat_mem hlt);obtain⟨x,fe⟩:∃x,x=wat L k:=⟨_,rfl⟩
    rw[←fe] at hat hx;have HX:=qH fe;have oU:=qH hat;have l6:=qH (show(Tryz.prog.info? 123).map (·.size)=some (wc x).length by rw[wc_length hx.2];exact size68);have j7:=qH hr;have j5:=qH hf;have ml:=qH (show(Tryz.prog.info? 123).map (·.size)=some (wc x).toArray.size by rw[List.size_toArray,wc_length hx.2];exact size68);have mh:=qH (show Z.size=(wc x).toArray.size by rw[HZ.out];simp[wc_length hx.2]);have o8:=qH (kept_all K Ej.out (fun x hx=>(HL.out x hx).2) k hk);have Ds:=qH (kept_length F L K k);rw[hA];have F9:=qH hA;have H1:=qH hx;have hv:K.getD k false=true:=by rw[HK.out];simp[hlt]
    have e:kept F L K (k+1)=(kept F L K k).set x.1 x.2:=by rw[kept,if_pos hv,←HX.out]
    have HE:=qH e;clear fe hat hr hf hA hx e hv;go_wp2_with (first
     |(refine wpList_load_mid rfl 123 (.tmp 18) rfl gL (k*65) rfl (wc x) _ oU.out Tryz.underlying123 rfl l6.out ?_)
     |(refine wpList_store_row rfl 123 (.tmp 3) (.tmp 19) rfl wr.heap.size (wc x).toArray rfl rfl 123 Z (heap_alloc_new wr _) ml.out mh.out (wc_all x) ?_))
    try simp only[Act.put]
    obtain⟨g3,hg3⟩:∃g3,g3=wr.heap.size:=⟨_,rfl⟩
    rw[←hg3];obtain⟨W2,hW2⟩:∃W2,W2=(wr.alloc (Obj.cells Z 123)).setRow g3 (wc x).toArray:=⟨_,rfl⟩
    rw[←hW2];rw[hg3,World.setRow_alloc_new] at hW2;have hr2:Raw D W2 y (kept F L K k) L (newL F.length L) f s.nw s.nf:=by rw[hW2];exact j7.out.alloc _
    have hb3:Blk W2 g3 123 (wc x).toArray:=by rw[hW2,hg3];exact heap_alloc_new wr _
    have hx0:W2.cell? ⟨g3,0,none⟩=some (.int .i64 (x.1:Int)):=hb3.cell 0;have hx1:W2.rangeAt g3 1 (bvs x.2):=fun j v hv=>by
     rw[hb3.cell,Nat.add_comm,List.getElem?_toArray];exact hv
    have hf2:Fr D w1 W2:=by rw[hW2];exact j5.out.alloc _
    have c0:=hr2.c0;have hxl:x.1<(kept F L K k).length:=by rw[Ds.out];exact H1.out.1
    have rA:((x.1:Nat):Int)<((kept F L K k).length:Int):=by omega
    have qE:(0:Int)≤((x.1:Nat):Int):=by omega
    have nc:=hr2.firmThere o8.out hxl;have xP:=qH nc;have cM:=qH hr2;have cJ:=qH hf2;have tK:=qH hxl;have mb:=qH hg3;have zj:=qH hx1;have jW:=qH (show(Tryz.prog.info? 121).map (·.size)=some (bvs x.2).length by rw[bvs_length,H1.out.2];exact size66);clear hr2 hf2 hW2 nc lm hb3 hx1 hg3;obtain⟨M,hM⟩:∃M,M=kept F L K k:=⟨_,rfl⟩
    rw[←hM] at c0 rA;have HM:=qH hM;clear hM hxl
    go_still_tail 9,(by kernel_rfl)
    refine still_load_mid rfl 121 (.tmp 26) rfl g3 1 rfl (bvs x.2) _ zj.out Tryz.underlying121 rfl jW.out ?_;try simp only[Act.put,zA,zB,zC]
    repeat still_step
    refine wpStill_nil ?_;go_wp2_with (refine wpList_store_mid rfl 121 (.tmp 28) (.tmp 27) rfl y.gF (x.1*64) (bvs x.2).toArray rfl rfl (by rw[List.size_toArray,bvs_length,H1.out.2];exact xP.out) (by rw[List.size_toArray];exact jW.out) (bvs_all _) ?_)
    go_roundw
    case rel=>
     refine⟨k+1,by omega,by go_num,?_,?_⟩
     ·rw[HE.out]
      exact(cM.out.same (w':=W2.drew) (fun _ _=>rfl) (Nat.le_refl _)).setFirm o8.out tK.out H1.out.2
     ·exact(cJ.out.drew).setCells (.inl cM.out.dF) _ _
    case measure=>simp[intOf];omega
   ·obtain rfl:k=L.length:=by omega
    have hr':Raw D wr y (kept F L K L.length) L (newL (kept F L K L.length).length L) f s.nw s.nf:=by rw[kept_length];exact hr
    have j7:=qH hr';have j5:=qH hf;have o8:=qH (show ∀x∈L,x.1<(kept F L K L.length).length∧x.2.length=64 by rw[kept_length];exact HL.out);have t0:=qH (show(kept F L K L.length).length≤4096 by rw[kept_length];exact rE.out);clear hr hr' hf lm;go_wp2_with fail
    go_at_call 60;refine(forget_any j7.out o8.out t0.out lH).mono ?_;rintro e w2⟨rfl,hf2,hr2⟩;have fz:=hr2.bd.frozen 5;have c5:=hr2.c5;rw[kept_length] at hr2;have cM:=qH hr2;have cJ:=qH hf2;have hadd:=addF s.nw s.nf lK.out.t.1 lK.out.t.2;have HA:=qH hadd;have hst:∀w,(store ⟨y.g,5,none⟩ (.complex .f64 (fadd s.nw 0) (fadd s.nf one64))).run Tryz.prog w=stored Tryz.prog w ⟨y.g,5,none⟩ (.complex .f64 (fadd s.nw 0) (fadd s.nf one64)) .plain:=fun w=>run_store Tryz.prog w _ _ _ rfl
    clear hr2 hf2 hadd;go_wp2_with (refine wpList_cadd rfl (.tmp 35) (.const (.complex .f64 0 4607182418800017408)) rfl rfl rfl HA.out ?_)
    go_end0
    refine⟨rfl,(((HF.out.trans j5.out (fun _ h=> .inl h)).trans cJ.out (fun _ h=> .inl h)).setCell (.inl j7.out.dg) _),?_⟩;have e:s.flush={s.burnt.land (List.replicate s.loose.length true) with nw:=fadd s.nw 0,nf:=fadd s.nf one64}:=by simp[Sim.flush,HG.out]
    have m9:=lK.out.land (List.replicate s.loose.length true);rw[e];have h7:=cM.out.setTraf (fadd s.nw 0) (fadd s.nf one64);rw[HK.out,IG.out,J7.out,Id.out] at h7;refine⟨{y with A:=none,c:=0},by rw[HY.out],?_,⟨m9.n,m9.f,m9.l,m9.w,m9.u,(add_ok lK.out.t.1 (Nat.zero_le _)).2,(add_ok lK.out.t.2 (by decide)).2⟩,yk.out⟩;show Raw D _ _ (kept s.firm s.loose (List.replicate s.loose.length true) s.loose.length) [] (newL (kept s.firm s.loose (List.replicate s.loose.length true) s.loose.length).length []) s.burnt.fuse.isSome (fadd s.nw 0) (fadd s.nf one64);rw[kept_length];exact h7
end Go.Proofs.YtmbkaedhllfoeaaGreat
