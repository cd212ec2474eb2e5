/-
  Texts of the proof, put together.
-/
import Derived.WalkKit
import Derived.WalkLawsBesides
import Derived.Deep.AppendSrc
import Derived.Deep.Upon
import Derived.Lib.Hide
import Derived.Laws.IdiomStrings
import Derived.ScopeJumps
import Derived.WalkSpells
import Derived.Laws.BitsAllLaws
import Derived.Laws.BitsLemmas
import Derived.Test.YtmbkaedhllfoeaaGreatKPA
set_option maxRecDepth 100000
set_option maxHeartbeats 4000000
set_option linter.unusedVariables false
namespace Go.Rst
open Go.RowKit
def bv(c:UInt8):Value:= .int .u8 (c.toNat:Int)
def bvs(l:List UInt8):List Value:=l.map bv
theorem bvs_length(l:List UInt8):(bvs l).length=l.length:=by simp[bvs]
theorem bvs_append(a b:List UInt8):bvs (a++b)=bvs a++bvs b:=by simp[bvs]
theorem bvs_one{l:List UInt8}:∀u∈bvs l,u.oneCell'=true:=by
 intro u hu;obtain⟨_,_,rfl⟩:=List.mem_map.1 hu;rfl
theorem bvs_get{l:List UInt8}{j:Nat}(h:j<l.length):(bvs l)[j]? =some (bv l[j]):=by
 simp[bvs,List.getElem?_eq_getElem h]
section
variable {P:Program}
theorem run_append_own_src(w:World)(base:Nat)(t tx ty e:TypeId)(i:TypeInfo)(z:Value)(size bytes:Nat)(ht:P.underlying t=some (.slice e))(hi:P.info? e=some i)(hz:i.zero=some z)
  (hsize:i.size=size) (hby:i.bytes=bytes) (hzs:z.cells.size=size)
  (v:Value) (n:Nat) (xs:List Value) (hown:w.ownsRow base e size v n xs)
  (x:Value) (m:Nat) (news:List Value) (hs:Src P size tx x m news w)
  (h63:n+m≤maxLen) (hbytes:(n+m)*bytes≤140737488355328) (hbase:base≤w.heap.size):
  ∃v' w',(Builtin.append_ #[t,tx] ty #[v,x]).run P w= .ok v' w'∧w'.ownsRow base e size v' (n+m) (xs++news)∧w.grownBy w' v.ownBlock∧
   (v'.ownBlock=v.ownBlock∨v'.ownBlock=some w.heap.size):=by
 subst hsize;subst hby;have hl:=hs.newsLen;have hsmall:n+m≤9223372036854775807:=by simp only[maxLen] at h63;omega
 have hlen:(xs++news).length=(n+m)*i.size:=by rw[List.length_append,hown.1,hl,Nat.add_mul]
 have grown:∀(old:Nat),old<n+m→∀(row:Option Nat),
   (w.drew.alloc (.cells ((xs++news).toArray++Builtin.zeroCells z.cells (grownCap w (n+m) old e-(n+m))) e)).ownsRow base e i.size
    (.slice (some ⟨w.heap.size,0,none⟩) (n+m) (grownCap w (n+m) old e)) (n+m) (xs++news)∧
   w.grownBy (w.drew.alloc (.cells ((xs++news).toArray++Builtin.zeroCells z.cells (grownCap w (n+m) old e-(n+m))) e)) row:=by
  intro old ho row;have hge:=grownCap_ge w (n+m) old e;have hcm:grownCap w (n+m) old e≤maxLen:=grownCap_le_maxLen w (n+m) old e h63;refine⟨⟨hlen,.inr ⟨w.heap.size,_,_,rfl,hbase,heap_alloc_new w.drew _,hge,hcm,?_,?_⟩⟩,⟨rfl,rfl,rfl,by simp,fun k hk _=>Below.heap_alloc w.drew _ k hk⟩⟩
  ·rw[Array.size_append,size_zeroCells,hzs,List.size_toArray,hlen,←Nat.add_mul]
   congr 1
   omega
  ·rw[Array.toList_append,List.toList_toArray,←hlen]
   exact List.take_left
 rcases hown.2 with ⟨rfl,rfl⟩|⟨g,cap,cur,rfl,hbg,hg,hnc,hcm,hcs,htake⟩
 ·have hx:xs= []:=List.eq_nil_of_length_eq_zero (by simpa using hown.1)
  subst hx;by_cases hm:m=0
  ·subst hm
   have hn:news= []:=List.eq_nil_of_length_eq_zero (by simpa using hl);subst hn;exact⟨.slice none 0 0,w,run_append_nothing w t tx ty e i ht hi none 0 0 (Nat.le_refl _) x hs,World.ownsRow_nil w base e i.size,⟨rfl,rfl,rfl,Nat.le_refl _,fun _ _ _=>rfl⟩,.inl rfl⟩
  ·have hr:=run_append_grow_src (P:=P) w t tx ty e i z ht hi hz none 0 0 [] (run_firstCells_none w.drew i.size 0 0 0) x m news hs (by omega) (by omega) (growslice_fits (by omega) hbytes)
   have hgr:=grown 0 (by omega) (Value.ownBlock (.slice none 0 0));exact⟨_,_,hr,hgr.1,hgr.2,.inr rfl⟩
 ·by_cases hroom:n+m≤cap
  ·have hfit:n*i.size+news.length≤cur.size:=by rw[hl,hcs,←Nat.add_mul];exact Nat.mul_le_mul_right _ hroom
   have hst:=run_storeCells_at P g (n*i.size) e news 0 cur w hg (by simpa using hfit) hs.one;simp only[Nat.add_zero] at hst;have hr:(Builtin.append_ #[t,tx] ty #[.slice (some ⟨g,0,none⟩) n cap,x]).run P w=
     .ok (.slice (some ⟨g,0,none⟩) (n+m) cap) (w.setRow g (cur.toList.take (n*i.size)++news++cur.toList.drop (n*i.size+news.length)).toArray):=by
    rcases hs.kind with ⟨e',hk⟩|hk <;>simp[Builtin.append_,run_underlying ht,run_underlying hk,sizeOf,typeInfo,hi,hs.len,hroom,hs.cells,Addr.add_lit,hst]
   refine⟨_,_,hr,⟨hlen,.inr ⟨g,cap,_,rfl,hbg,setRow_heap w g cur _ e _ hg,hroom,hcm,?_,?_⟩⟩,⟨rfl,rfl,rfl,by simp,fun k _ hk=>setRow_other w g k _ (fun e=>hk (by simp[Value.ownBlock,e]))⟩,.inl rfl⟩
   ·simp only[List.size_toArray,List.length_append,List.length_take,List.length_drop,Array.length_toList]
    omega
   ·rw[htake,←hlen]
    exact List.take_left
  ·have holds:∀j u,xs[j]? =some u→w.drew.cell? ((⟨g,0,none⟩:Addr).add j)=some u:=hown.cells (g:=g) rfl
   have hr:=run_append_grow_src (P:=P) w t tx ty e i z ht hi hz (some ⟨g,0,none⟩) n cap xs (run_firstCells_some w.drew i.size n ⟨g,0,none⟩ n cap xs hown.1 holds) x m news hs (by omega) (by omega) (growslice_fits (by omega) hbytes);have hgr:=grown cap (by omega) (Value.ownBlock (.slice (some ⟨g,0,none⟩) n cap));exact⟨_,_,hr,hgr.1,hgr.2,.inr rfl⟩
theorem wp_append_src{w:World}{o:Oper}{a:Act}{K:Act→World→Prop}{Q:Exit→Act→World→Prop}(s x:Operand)(t tx:TypeId)
  (ho:o.op= .call {callee:= .builtin .append,args:=#[s,x],argTypes:=#[t,tx]})
  (base:Nat) (e:TypeId) (i:TypeInfo) (z:Value) (size bytes:Nat) (ht:P.underlying t=some (.slice e)) (hi:P.info? e=some i) (hz:i.zero=some z)
  (hsize:i.size=size) (hby:i.bytes=bytes) (hzs:z.cells.size=size)
  {v:Value} {n:Nat} {xs:List Value} (hs:a.eval s=v) (hown:w.ownsRow base e size v n xs)
  {xv:Value} {m:Nat} {news:List Value} (hx:a.eval x=xv) (hsrc:Src P size tx xv m news w)
  (h63:n+m≤maxLen) (hbytes:(n+m)*bytes≤140737488355328) (hbase:base≤w.heap.size)
  (h:∀v' w',w'.ownsRow base e size v' (n+m) (xs++news)→w.grownBy w' v.ownBlock→(v'.ownBlock=v.ownBlock∨v'.ownBlock=some w.heap.size)→K (a.put o.dst v') w'):o.wp P a w K Q:=by
 obtain⟨v',w',hr,h2,h3,h4⟩:=run_append_own_src (P:=P) w base t tx o.type e i z size bytes ht hi hz hsize hby hzs v n xs hown xv m news hsrc h63 hbytes hbase;unfold Oper.wp execOp;simp only[ho,resolve,invoke,builtin,Sem.run_bind,Sem.run_pure,Result.andThen_ok,List.map_toArray,List.map_cons,List.map_nil,hs,hx,hr];exact h v' w' h2 h3 h4
theorem wpList_append_src{w:World}{ops:Array Oper}{rest:List Oper}{o:Oper}{a:Act}{Q:Exit→Act→World→Prop}(hgd:o.guard=none)(s x:Operand)(t tx:TypeId)
  (ho:o.op= .call {callee:= .builtin .append,args:=#[s,x],argTypes:=#[t,tx]})
  (base:Nat) (e:TypeId) (i:TypeInfo) (z:Value) (size bytes:Nat) (ht:P.underlying t=some (.slice e)) (hi:P.info? e=some i) (hz:i.zero=some z)
  (hsize:i.size=size) (hby:i.bytes=bytes) (hzs:z.cells.size=size)
  {v:Value} {n:Nat} {xs:List Value} (hs:a.eval s=v) (hown:w.ownsRow base e size v n xs)
  {xv:Value} {m:Nat} {news:List Value} (hx:a.eval x=xv) (hsrc:Src P size tx xv m news w)
  (h63:n+m≤maxLen) (hbytes:(n+m)*bytes≤140737488355328) (hbase:base≤w.heap.size)
  (h:∀v' w',w'.ownsRow base e size v' (n+m) (xs++news)→w.grownBy w' v.ownBlock→(v'.ownBlock=v.ownBlock∨v'.ownBlock=some w.heap.size)→wpList P ops Q rest (a.put o.dst v') w'):wpList P ops Q (o::rest) a w:=
 wpList_plain hgd fun _ hK=>wp_append_src s x t tx ho base e i z size bytes ht hi hz hsize hby hzs hs hown hx hsrc h63 hbytes hbase fun v' w' h2 h3 h4=>hK _ _ (h v' w' h2 h3 h4)
end
section
variable {P:Program} {a:Act} {w:World} {Q:Exit→Act→World→Prop}
def Behind(P:Program)(rest:Code)(Q:Exit→Act→World→Prop)(a:Act)(w:World):Prop:=rest.wp P (Exit.noGoto Q) a w
theorem wp_scope_fwd{c rest:Code}(l:Nat)(hf:findLabel c l=some rest)(first:c.wp P (Exit.jump l (Behind P rest Q) Q) a w):(Code.scope c).wp P Q a w:=
 wp_scope_jumps l (Behind P rest Q) (fun _ _=>0) hf first fun a w h=>wp_mono (show rest.wp P (Exit.noGoto Q) a w from h) fun e a w hq=>by
  cases e with
  |goto l'=>exact hq.elim
  |normal=>exact hq
  |exit id=>exact hq
  |ret=>exact hq
  |panic ch=>exact hq
  |outgrown=>exact hq
end
def numL(n:Nat):List UInt8:=if _h:n<128 then [UInt8.ofNat n] else UInt8.ofNat (n%128+128)::numL (n/128)
termination_by n
decreasing_by omega
theorem numL_lt{n:Nat}(h:n<128):numL n= [UInt8.ofNat n]:=by rw[numL];simp[h]
theorem numL_ge{n:Nat}(h:128≤n):numL n=UInt8.ofNat (n%128+128)::numL (n/128):=by
 rw[numL];simp[show ¬n<128 from by omega]
theorem numL_pos(n:Nat):1≤(numL n).length:=by
 by_cases h:n<128
 ·rw[numL_lt h];simp
 ·rw[numL_ge (by omega)];simp
theorem numL_len:∀(j n:Nat),n<128^(j+1)→(numL n).length≤j+1
 |0,n,h=>by rw[numL_lt (by simpa using h)];simp
 |j+1,n,h=>by
  by_cases h0:n<128
  ·rw[numL_lt h0];simp
  ·rw[numL_ge (by omega),List.length_cons]
   have:=numL_len j (n/128) (by rw[Nat.pow_succ] at h;exact(Nat.div_lt_iff_lt_mul (by decide)).2 h);omega
theorem numL_len8{n:Nat}(h:n≤9007199254740992):(numL n).length≤8:=numL_len 7 n (Nat.lt_of_le_of_lt h (by decide))
theorem byte_more(k:Nat):bits .or .u8 ((k:Int)%256) 128=((UInt8.ofNat (k%128+128)).toNat:Int):=by
 have e:∀m:Nat,m<256→bits .or .u8 (m:Int) 128=((UInt8.ofNat (m%128+128)).toNat:Int):=by decide +kernel
 have h1:((k:Int)%256)=((k%256:Nat):Int):=by omega
 rw[h1,e (k%256) (Nat.mod_lt _ (by decide))];have h2:k%256%128=k%128:=by omega
 rw[h2]
theorem byte_last{k:Nat}(h:k<128):(k:Int)=((UInt8.ofNat k).toNat:Int):=by
 have:(UInt8.ofNat k).toNat=k:=by rw[UInt8.toNat_ofNat'];exact Nat.mod_eq_of_lt (by omega)
 rw[this]
theorem byte_low{d:Nat}(h:d<256):bits .andNot .i64 (d:Int) 128=((d%128:Nat):Int):=by
 have e:∀m:Nat,m<256→bits .andNot .i64 (m:Int) 128=((m%128:Nat):Int):=by decide +kernel
 exact e d h
theorem nat_of_i64(a:Nat)(ha:a<9223372036854775808):(BitVec.ofInt 64 (a:Int)).toNat=a:=by
 rw[BitVec.ofInt_natCast,BitVec.toNat_ofNat];exact Nat.mod_eq_of_lt (by omega)
theorem or_i64(a b:Nat)(ha:a<9223372036854775808)(hb:b<9223372036854775808):bits .or .i64 (a:Int) (b:Int)=((a|||b:Nat):Int):=by
 have hx:a|||b<2^63:=Nat.or_lt_two_pow (by omega) (by omega)
 show IntKind.i64.wrap ((BitVec.ofInt 64 (a:Int)|||BitVec.ofInt 64 (b:Int)).toNat:Int)=_;rw[BitVec.toNat_or,nat_of_i64 a ha,nat_of_i64 b hb,IntKind.wrap_i64];omega
theorem digit_up{acc d k:Nat}(hd:d<256)(hk:k<8)(ha:acc<128^k):
  bits .or .i64 (acc:Int) (wrap64 (bits .andNot .i64 (d:Int) 128*2^(7*k)))=((acc+d%128*128^k:Nat):Int):=by
 have hp:(128:Nat)^k=2^(7*k):=by rw[Nat.pow_mul]
 have hle:(2:Nat)^(7*k)≤2^49:=Nat.pow_le_pow_right (by decide) (by omega);have hlt:d%128*2^(7*k)<2^56:=by
  have h1:d%128*2^(7*k)≤127*2^49:=Nat.mul_le_mul (by omega) hle;omega
 rw[hp] at ha⊢;rw[byte_low hd];have hc:(((d%128:Nat):Int)*2^(7*k))=((d%128*2^(7*k):Nat):Int):=by
  rw[Int.natCast_mul,Int.natCast_pow];rfl
 rw[hc,IntWalk.wrap64_in _ ⟨by omega,by omega⟩,or_i64 acc _ (by omega) (by omega)]
 congr 1
 have h2:=Nat.shiftLeft_add_eq_or_of_lt (b:=acc) (i:=7*k) ha (d%128);rw[Nat.shiftLeft_eq] at h2;rw[Nat.or_comm,←h2,Nat.add_comm]
def clip(n:Int):Nat:=(max 0 (min n 9007199254740992)).toNat
theorem clip_le(n:Int):clip n≤9007199254740992:=by unfold clip;omega
def gnumF(l:List UInt8):Nat→Nat→Nat→Int→Int×Int×Int
 |0,_,_,_=>(0,0,11)
 |f+1,i,acc,q=>
  if q<0∨(l.length:Int)≤q then (0,0,10) else
  if 128≤(l.getD q.toNat 0).toNat then gnumF l f (i+1) (acc+(l.getD q.toNat 0).toNat%128*128^i) (q+1)
  else if ((l.getD q.toNat 0).toNat=0∧0<i)∨9007199254740992<acc+(l.getD q.toNat 0).toNat%128*128^i then (0,0,11)
  else (((acc+(l.getD q.toNat 0).toNat%128*128^i:Nat):Int),q+1,0)
def getNum(l:List UInt8)(q:Int):Int×Int×Int:=gnumF l 8 0 0 q
theorem gnumF_spec(l:List UInt8):∀(f i acc:Nat) (q:Int),
  ((gnumF l f i acc q).2.2=0∧0≤(gnumF l f i acc q).1∧(gnumF l f i acc q).1≤9007199254740992∧0≤q∧q<(gnumF l f i acc q).2.1∧(gnumF l f i acc q).2.1≤l.length)∨
  (((gnumF l f i acc q).2.2=10∨(gnumF l f i acc q).2.2=11)∧(gnumF l f i acc q).1=0∧(gnumF l f i acc q).2.1=0)
 |0,i,acc,q=> .inr (by simp[gnumF])
 |f+1,i,acc,q=>by
  unfold gnumF;split
  ·exact .inr (by simp)
  ·rename_i h
   split
   ·rcases gnumF_spec l f (i+1) (acc+(l.getD q.toNat 0).toNat%128*128^i) (q+1) with ⟨h1,h2,h3,h4,h5,h6⟩|h1
    ·exact .inl ⟨h1,h2,h3,by omega,by omega,h6⟩
    ·exact .inr h1
   ·split
    ·exact .inr (by simp)
    ·rename_i h2
     refine .inl ⟨rfl,by simp only[];omega,by simp only[];omega,by omega,by simp only[];omega,by simp only[];omega⟩
theorem getNum_spec(l:List UInt8)(q:Int):((getNum l q).2.2=0∧0≤(getNum l q).1∧(getNum l q).1≤9007199254740992∧0≤q∧q<(getNum l q).2.1∧(getNum l q).2.1≤l.length)∨
  (((getNum l q).2.2=10∨(getNum l q).2.2=11)∧(getNum l q).1=0∧(getNum l q).2.1=0):=gnumF_spec l 8 0 0 q
def getText(l:List UInt8)(p most:Int):List UInt8×Int×Int:=
 if (getNum l p).2.2≠0 then ([],0,(getNum l p).2.2)
 else if most<(getNum l p).1 then ([],0,3)
 else if (l.length:Int)-(getNum l p).2.1<(getNum l p).1 then ([],0,10)
 else ((l.drop (getNum l p).2.1.toNat).take (getNum l p).1.toNat,(getNum l p).2.1+(getNum l p).1,0)
def RB(w:World)(v:Value)(l:List UInt8):Prop:=
 ∃A c,v= .slice A l.length c∧l.length≤c∧c≤maxLen∧(l= []∨∃b off,A=some ⟨b,off,none⟩∧b<w.heap.size∧∀j (h:j<l.length),w.cell? ⟨b,off+j,none⟩=some (bv l[j]))
theorem own_snoc{w:World}{base:Nat}{e:TypeId}{v:Value}{l:List UInt8}{c:UInt8}(h:w.ownsRow base e 1 v (l.length+1) (bvs l++ [Value.int .u8 (c.toNat:Int)])):
  w.ownsRow base e 1 v (l++ [c]).length (bvs (l++ [c])):=by
 rw[bvs_append,List.length_append];exact h
theorem own_cat{w:World}{base:Nat}{e:TypeId}{v:Value}{l m:List UInt8}(h:w.ownsRow base e 1 v (l.length+m.length) (bvs l++bvs m)):
  w.ownsRow base e 1 v (l++m).length (bvs (l++m)):=by
 rw[bvs_append,List.length_append];exact h
def RR(w:World)(v:Value)(rs:List (ByteArray×List UInt8)):Prop:=
 ∃A c,v= .slice A rs.length c∧rs.length≤c∧c≤maxLen∧(rs= []∨∃b off,A=some ⟨b,off,none⟩∧b<w.heap.size∧
  ∀j (h:j<rs.length),w.cell? ⟨b,off+j*2,none⟩=some (.string rs[j].1)∧∃u,w.cell? ⟨b,off+j*2+1,none⟩=some u∧RB w u rs[j].2)
def NewB(e:TypeId)(w:World)(l:List UInt8)(x:Ending)(w':World):Prop:=
 ∃v,x= .returned v∧w'.ownsRow w.heap.size e 1 v l.length (bvs l)∧Below w.heap.size w w'
theorem RB.keep{w w':World}{v:Value}{l:List UInt8}(h:RB w v l)(hs:w.heap.size≤w'.heap.size)(hc:∀b o,b<w.heap.size→w'.cell? ⟨b,o,none⟩=w.cell? ⟨b,o,none⟩):RB w' v l:=by
 obtain⟨A,c,rfl,h1,h2,h3⟩:=h;refine⟨A,c,rfl,h1,h2,?_⟩;rcases h3 with h3|⟨b,off,rfl,hb,hcell⟩
 ·exact .inl h3
 ·exact .inr ⟨b,off,rfl,by omega,fun j hj=>(hc b _ hb).trans (hcell j hj)⟩
theorem RB.below{w w':World}{v:Value}{l:List UInt8}(h:RB w v l)(hb:Below w.heap.size w w'):RB w' v l:=
 h.keep hb.size fun _ _ hlt=>hb.cell (p:=⟨_,_,none⟩) hlt
theorem RB.drew{w:World}{v:Value}{l:List UInt8}(h:RB w v l):RB w.drew v l:=h
theorem RB.alloc{w:World}{v:Value}{l:List UInt8}(h:RB w v l)(o:Obj):RB (w.alloc o) v l:=h.below ((Below.refl _ _).alloc (Nat.le_refl _) o)
theorem RB.nil_(w:World):RB w (.slice none 0 0) []:=⟨none,0,rfl,Nat.zero_le _,Nat.zero_le _,.inl rfl⟩
theorem RB.own{w:World}{base:Nat}{e:TypeId}{v:Value}{l:List UInt8}(h:w.ownsRow base e 1 v l.length (bvs l)):RB w v l:=by
 rcases h.2 with ⟨rfl,h0⟩|⟨g,cap,cur,rfl,hb,hg,hnc,hcm,_⟩
 ·have:l= []:=List.eq_nil_of_length_eq_zero h0
  subst this;exact RB.nil_ w
 ·refine⟨some ⟨g,0,none⟩,cap,rfl,hnc,hcm,.inr ⟨g,0,rfl,(Array.getElem?_eq_some_iff.1 hg).1,fun j hj=>?_⟩⟩
  have:=h.cells (g:=g) rfl j (bv l[j]) (bvs_get hj);rw[Addr.add_lit] at this
  simpa using this
def FB(e:TypeId)(w:World)(base:Nat)(v:Value)(l:List UInt8):Prop:=
 (v= .slice none 0 0∧l= [])∨∃g c cur fr,v= .slice (some ⟨g,0,none⟩) l.length c∧base≤g∧w.heap[g]? =some (.cells cur e fr)∧l.length≤c∧c≤maxLen∧cur.toList.take l.length=bvs l
theorem FB.rb{e:TypeId}{w:World}{base:Nat}{v:Value}{l:List UInt8}(h:FB e w base v l):RB w v l:=by
 rcases h with ⟨rfl,rfl⟩|⟨g,c,cur,fr,rfl,hb,hg,hc,hm,ht⟩
 ·exact RB.nil_ w
 ·refine⟨some ⟨g,0,none⟩,c,rfl,hc,hm,.inr ⟨g,0,rfl,(Array.getElem?_eq_some_iff.1 hg).1,fun j hj=>?_⟩⟩
  rw[Nat.zero_add,cell_of_row w g j cur e fr hg];have h1:=bvs_get hj;rw[←ht,List.getElem?_take,if_pos hj] at h1
  simpa using h1
theorem FB.shape{e:TypeId}{w:World}{base:Nat}{v:Value}{l:List UInt8}(h:FB e w base v l):∃A c,v= .slice A l.length c:=by
 rcases h with ⟨rfl,rfl⟩|⟨g,c,cur,fr,rfl,_⟩
 ·exact⟨_,_,rfl⟩
 ·exact⟨_,_,rfl⟩
theorem FB.own{e:TypeId}{w:World}{base:Nat}{v:Value}{l:List UInt8}(h:w.ownsRow base e 1 v l.length (bvs l)):FB e w base v l:=by
 rcases h.2 with ⟨rfl,h0⟩|⟨g,cap,cur,rfl,hb,hg,hnc,hcm,_,ht⟩
 ·exact .inl ⟨rfl,List.eq_nil_of_length_eq_zero h0⟩
 ·exact .inr ⟨g,cap,cur,_,rfl,hb,hg,hnc,hcm,by simpa using ht⟩
theorem FB.base_{e:TypeId}{w:World}{base base':Nat}{v:Value}{l:List UInt8}(h:FB e w base v l)(hb:base'≤base):FB e w base' v l:=by
 rcases h with h|⟨g,c,cur,fr,h1,h2,h3⟩
 ·exact .inl h
 ·exact .inr ⟨g,c,cur,fr,h1,by omega,h3⟩
theorem FB.block_{e:TypeId}{w w':World}{base:Nat}{v:Value}{l:List UInt8}(h:FB e w base v l)
  (hk:∀(g:Nat) (cur:Array Value) (fr:Nat×Nat),w.heap[g]? =some (Obj.cells cur e fr)→w'.heap[g]? =some (Obj.cells cur e fr)):FB e w' base v l:=by
 rcases h with h|⟨g,c,cur,fr,h1,h2,h3,h4⟩
 ·exact .inl h
 ·exact .inr ⟨g,c,cur,fr,h1,h2,hk _ _ _ h3,h4⟩
theorem FB.below{e:TypeId}{w w':World}{base:Nat}{v:Value}{l:List UInt8}(h:FB e w base v l)(hb:Below w.heap.size w w'):FB e w' base v l:=
 h.block_ fun g _ _ hg=>(hb.block g (Array.getElem?_eq_some_iff.1 hg).1).trans hg
theorem FB.setCell{e:TypeId}{w:World}{base:Nat}{v:Value}{l:List UInt8}(h:FB e w base v l){p:Addr}(hp:p.block<base)(u:Value):FB e (w.setCell p u) base v l:=by
 rcases h with h|⟨g,c,cur,fr,h1,h2,h3,h4⟩
 ·exact .inl h
 ·exact .inr ⟨g,c,cur,fr,h1,h2,(Below.heap_setCell w p u g (by omega)).trans h3,h4⟩
theorem FB.grown{e e':TypeId}{w w':World}{base base' size n:Nat}{v r:Value}{l:List UInt8}{xs:List Value}(h:FB e w base v l)(hr:w.ownsRow base' e' size r n xs)(hne:e≠e')
  (hg:w.grownBy w' r.ownBlock):FB e w' base v l:=
 h.block_ fun g cur fr hh=>(hg.block g (Array.getElem?_eq_some_iff.1 hh).1 (fun he=>by
  rcases hr.2 with ⟨rfl,_⟩|⟨g',cap,cur',rfl,_,hg',_⟩
  ·simp[Value.ownBlock] at he
  ·simp[Value.ownBlock] at he
   subst he;rw[hh] at hg';injection hg' with hg';injection hg' with _ h2 _;exact hne h2)).trans hh
section
variable {P:Program}
theorem RB.src{w:World}{v:Value}{l:List UInt8}(h:RB w v l){tx e':TypeId}(hk:P.underlying tx=some (.slice e')):Src P 1 tx v l.length (bvs l) w:=by
 obtain⟨A,c,rfl,h1,h2,h3⟩:=h;rcases h3 with rfl|⟨b,off,rfl,hb,hcell⟩
 ·cases A with
  |none=>exact Src.ofNil w hk c
  |some a=>exact Src.ofSlice w hk a 0 c [] rfl (fun j u hj=>by simp at hj) (fun u hu=>by cases hu)
 ·refine Src.ofSlice w hk ⟨b,off,none⟩ l.length c (bvs l) (by simp[bvs_length]) (fun j u hj=>?_) bvs_one
  have hj':j<l.length:=by have:=(List.getElem?_eq_some_iff.1 hj).1;simpa [bvs_length] using this
  rw[bvs_get hj'] at hj;have hu:u=bv l[j]:=by simpa using hj.symm
  subst hu;have:=hcell j hj';by_cases h0:j=0
  ·subst h0;simpa [Addr.add] using this
  ·simpa [Addr.add,h0] using this
theorem RB.str{w:World}{v:Value}{l:List UInt8}(h:RB w v l){src dst e:TypeId}(hs:P.underlying src=some (.slice e))(he:P.underlying e=some (.int .u8))(hd:P.underlying dst=some .string):
  (convert src dst v).run P w= .ok (.string ⟨l.toArray⟩) w:=by
 obtain⟨A,c,rfl,h1,h2,h3⟩:=h;rcases h3 with rfl|⟨b,off,rfl,hb,hcell⟩
 ·cases A with
  |none=>rw[run_convert_bytes_string w src dst e none _ c hs he hd];rfl
  |some a=>exact run_convert_bytes_back w src dst e a c [] hs he hd (fun j hj=>by simp at hj)
 ·exact run_convert_bytes_back w src dst e ⟨b,off,none⟩ c l hs he hd (fun j hj=>by rw[Addr.add_lit];exact hcell j hj)
theorem RB.cut{w:World}{b off c q n:Nat}{l:List UInt8}(h:RB w (.slice (some ⟨b,off,none⟩) l.length c) l)(hq:q+n≤l.length):
  RB w (.slice (some ⟨b,off+q,none⟩) n (c-q)) ((l.drop q).take n):=by
 obtain⟨A,c',he,h1,h2,h3⟩:=h;injection he with e1 _ e3;subst e1;subst e3;have hl:((l.drop q).take n).length=n:=by rw[List.length_take,List.length_drop];omega
 refine⟨some ⟨b,off+q,none⟩,c-q,by rw[hl],by omega,by omega,?_⟩;rcases h3 with rfl|⟨b',off',he,hb,hcell⟩
 ·left;simp
 ·injection he with he
  injection he with e1 e2 _;subst e1;subst e2;refine .inr ⟨b,off+q,rfl,hb,fun j hj=>?_⟩;rw[hl] at hj;rw[Nat.add_assoc,hcell (q+j) (by omega)]
  congr 1
  simp
theorem RB.head{w:World}{A:Option Addr}{c n:Nat}{l:List UInt8}(h:RB w (.slice A l.length c) l)(hq:n≤l.length):
  RB w (.slice A n c) (l.take n):=by
 obtain⟨A',c',he,h1,h2,h3⟩:=h;injection he with e1 _ e3;subst e1;subst e3;have hl:(l.take n).length=n:=by rw[List.length_take];omega
 refine⟨A,c,by rw[hl],by omega,h2,?_⟩;rcases h3 with rfl|⟨b,off,rfl,hb,hcell⟩
 ·left;simp
 ·refine .inr ⟨b,off,rfl,hb,fun j hj=>?_⟩
  rw[hl] at hj;rw[hcell j (by omega)]
  congr 1
  simp
theorem src_one(w:World){tx e':TypeId}(hk:P.underlying tx=some (.slice e'))(e:TypeId)(u:Value)(h1:u.oneCell'=true):Src P 1 tx (.slice (some ⟨w.heap.size,0,none⟩) 1 1) 1 [u] (w.alloc (.cells #[u] e)):=by
 refine Src.ofSlice _ hk ⟨w.heap.size,0,none⟩ 1 1 [u] rfl (fun j x hj=>?_) (fun x hx=>by simp at hx;subst hx;exact h1)
 match j,hj with
 |0,hj=>simp at hj;subst hj;simp[Addr.add]
theorem wpList_bytes{w:World}{ops:Array Oper}{rest:List Oper}{o:Oper}{a:Act}{Q:Exit→Act→World→Prop}(hgd:o.guard=none)(x:Operand)(src dst e:TypeId)
  (ho:o.op= .convert src dst x) (hs:P.underlying src=some .string) (hd:P.underlying dst=some (.slice e)) (he:P.underlying e=some (.int .u8))
  {s:ByteArray} (hx:a.eval x= .string s) (hlen:s.data.toList.length≤maxLen)
  (h:∀g c w',FB e w' w.heap.size (.slice (some ⟨g,0,none⟩) s.data.toList.length c) s.data.toList→Below w.heap.size w w'→wpList P ops Q rest (a.put o.dst (.slice (some ⟨g,0,none⟩) s.data.toList.length c)) w'):
  wpList P ops Q (o::rest) a w:=by
 refine wpList_plain hgd fun K hK=>?_
 have hrun:=run_bytes_of_string (P:=P) w src dst e s hs hd he;have hsz:s.size=s.data.toList.length:=by rw[Array.length_toList];rfl
 rw[hsz] at hrun;unfold Oper.wp execOp;simp only[ho,hx,hrun,Sem.run_bind,Sem.run_pure,Result.andThen_ok];refine hK _ _ (h _ _ _ (.inr ⟨w.heap.size,_,_,_,rfl,Nat.le_refl _,heap_alloc_new w.drew _,grownCap_ge w _ 0 e,grownCap_le_maxLen w _ 0 e hlen,?_⟩) ((Below.refl _ _).drew.alloc (Nat.le_refl _) _));unfold bytesRow;rw[Array.toList_append,Array.toList_map];exact List.take_left' (by rw[List.length_map])
theorem wpList_own{w:World}{ops:Array Oper}{rest:List Oper}{o:Oper}{a:Act}{Q:Exit→Act→World→Prop}(hgd:o.guard=none)(s x:Operand)(t tx:TypeId)
  (ho:o.op= .call {callee:= .builtin .append,args:=#[s,x],argTypes:=#[t,tx]})
  (base:Nat) (e:TypeId) (z:Value) (size bytes:Nat) (ht:P.underlying t=some (.slice e)) (hinfo:(P.info? e).map (fun i=>(i.zero,i.size,i.bytes))=some (some z,size,bytes))
  (hzs:z.cells.size=size)
  {v:Value} {n:Nat} {xs:List Value} (hs:a.eval s=v) (hown:w.ownsRow base e size v n xs)
  {xv:Value} {m:Nat} {news:List Value} (hx:a.eval x=xv) (hsrc:Src P size tx xv m news w) {W:World} {B:Nat} (ad:Below B W w) (hB:B≤base)
  (h63:n+m≤maxLen) (hbytes:(n+m)*bytes≤140737488355328) (hbase:base≤w.heap.size)
  (h:∀v' w',w'.ownsRow base e size v' (n+m) (xs++news)→Below B W w'→w.grownBy w' v.ownBlock→wpList P ops Q rest (a.put o.dst v') w'):wpList P ops Q (o::rest) a w:=by
 obtain⟨i,hi,hz,hsz,hb⟩:=info_parts hinfo;exact wpList_append_src hgd s x t tx ho base e i z size bytes ht hi hz hsz hb hzs hs hown hx hsrc h63 hbytes hbase fun v' w' h1 h2 _=>
  h v' w' h1 (ad.grown h2 (by omega) fun k hk=>by have:=(hown.lt k hk).1;omega) h2
theorem step_own{w:World}{ops:Array Oper}{o:Oper}{a:Act}{K:Act→World→Prop}{Q:Exit→Act→World→Prop}{E:Prop}(hgd:o.guard=none)(s x:Operand)(t tx:TypeId)
  (ho:o.op= .call {callee:= .builtin .append,args:=#[s,x],argTypes:=#[t,tx]})
  (base:Nat) (e:TypeId) (z:Value) (size bytes:Nat) (ht:P.underlying t=some (.slice e)) (hinfo:(P.info? e).map (fun i=>(i.zero,i.size,i.bytes))=some (some z,size,bytes))
  (hzs:z.cells.size=size)
  {v:Value} {n:Nat} {xs:List Value} (hs:a.eval s=v) (hown:w.ownsRow base e size v n xs)
  {xv:Value} {m:Nat} {news:List Value} (hx:a.eval x=xv) (hsrc:Src P size tx xv m news w) {W:World} {B:Nat} (ad:Below B W w) (hB:B≤base)
  (h63:n+m≤maxLen) (hbytes:(n+m)*bytes≤140737488355328) (hbase:base≤w.heap.size)
  (h:∀v' w',w'.ownsRow base e size v' (n+m) (xs++news)→Below B W w'→w.grownBy w' v.ownBlock→K (a.put o.dst v') w'):
  if Region.wanted o (yielded ops a.tmps)=true then Oper.wp P o a w K Q else E:=by
 have hw:Region.wanted o (yielded ops a.tmps)=true:=by simp[Region.wanted,hgd]
 rw[if_pos hw];obtain⟨i,hi,hz,hsz,hb⟩:=info_parts hinfo;exact wp_append_src s x t tx ho base e i z size bytes ht hi hz hsz hb hzs hs hown hx hsrc h63 hbytes hbase fun v' w' h1 h2 _=>
  h v' w' h1 (ad.grown h2 (by omega) fun k hk=>by have:=(hown.lt k hk).1;omega) h2
theorem own_below{w w':World}{base:Nat}{e:TypeId}{size:Nat}{v:Value}{n:Nat}{xs:List Value}(h:w.ownsRow base e size v n xs)(hb:Below w.heap.size w w'):w'.ownsRow base e size v n xs:=by
 refine⟨h.1,?_⟩;rcases h.2 with h0|⟨g,cap,cur,rfl,hbg,hg,rest⟩
 ·exact .inl h0
 ·exact .inr ⟨g,cap,cur,rfl,hbg,(hb.block g (Array.getElem?_eq_some_iff.1 hg).1).trans hg,rest⟩
theorem own_base{w:World}{base base':Nat}{e:TypeId}{size:Nat}{v:Value}{n:Nat}{xs:List Value}(h:w.ownsRow base e size v n xs)(hb:base'≤base):w.ownsRow base' e size v n xs:=by
 refine⟨h.1,?_⟩;rcases h.2 with h0|⟨g,cap,cur,rfl,hbg,rest⟩
 ·exact .inl h0
 ·exact .inr ⟨g,cap,cur,rfl,by omega,rest⟩
theorem src_two(w:World){g:Nat}(hg:w.heap.size=g){tx e':TypeId}(hk:P.underlying tx=some (.slice e'))(e:TypeId)(a b:Value)(h1:a.oneCell'=true)(h2:b.oneCell'=true):Src P 2 tx (.slice (some ⟨g,0,none⟩) 1 1) 1 [a,b] (w.alloc (.cells #[a,b] e)):=by
 subst hg;refine Src.ofSlice _ hk ⟨w.heap.size,0,none⟩ 1 1 [a,b] rfl (fun j x hj=>?_) (fun x hx=>by simp at hx;rcases hx with rfl|rfl <;>assumption)
 match j,hj with
 |0,hj=>simp at hj;subst hj;simp[Addr.add]
 |1,hj=>simp at hj;subst hj;simp[Addr.add]
theorem src_three(w:World){g:Nat}(hg:w.heap.size=g){tx e':TypeId}(hk:P.underlying tx=some (.slice e'))(e:TypeId)(a b c:Value)(h1:a.oneCell'=true)(h2:b.oneCell'=true)(h3:c.oneCell'=true):Src P 3 tx (.slice (some ⟨g,0,none⟩) 1 1) 1 [a,b,c] (w.alloc (.cells #[a,b,c] e)):=by
 subst hg;refine Src.ofSlice _ hk ⟨w.heap.size,0,none⟩ 1 1 [a,b,c] rfl (fun j x hj=>?_) (fun x hx=>by simp at hx;rcases hx with rfl|rfl|rfl <;>assumption)
 match j,hj with
 |0,hj=>simp at hj;subst hj;simp[Addr.add]
 |1,hj=>simp at hj;subst hj;simp[Addr.add]
 |2,hj=>simp at hj;subst hj;simp[Addr.add]
theorem src_string{w:World}{tx:TypeId}(hk:P.underlying tx=some .string)(s:ByteArray):Src P 1 tx (.string s) s.data.toList.length (bvs s.data.toList) w:=by
 have:=Src.ofString (P:=P) w hk s;have e:s.size=s.data.toList.length:=by rw[Array.length_toList];rfl
 rw[e] at this;exact this
end
theorem own_shape{w:World}{base:Nat}{e:TypeId}{size:Nat}{v:Value}{n:Nat}{xs:List Value}(h:w.ownsRow base e size v n xs):∃A c,v= .slice A n c∧n≤c:=by
 rcases h.2 with ⟨rfl,rfl⟩|⟨g,cap,cur,rfl,_,_,hc,_⟩
 ·exact⟨_,_,rfl,Nat.le_refl _⟩
 ·exact⟨_,_,rfl,hc⟩
theorem RB.lit(w:World)(e:TypeId)(fr:Nat×Nat)(l:List UInt8)(cs:Array Value)(hcs:cs=(bvs l).toArray)(n:Nat)(hn:n=l.length)(hm:n≤1000000):RB (w.alloc (.cells cs e fr)) (.slice (some ⟨w.heap.size,0,none⟩) n n) l:=by
 subst hcs;subst hn;refine⟨some ⟨w.heap.size,0,none⟩,l.length,rfl,Nat.le_refl _,by unfold maxLen;omega,.inr ⟨w.heap.size,0,rfl,by simp,fun j hj=>?_⟩⟩;rw[Nat.zero_add,cell_of_row _ w.heap.size j (bvs l).toArray e fr (heap_alloc_new w _),List.getElem?_toArray,bvs_get hj]
def rowCells(us:List (ByteArray×List UInt8×Value)):List Value:=us.flatMap fun x=> [.string x.1,x.2.2]
theorem rowCells_length(us:List (ByteArray×List UInt8×Value)):(rowCells us).length=us.length*2:=by
 induction us with
 |nil=>rfl
 |cons x us ih=>unfold rowCells at ih⊢;rw[List.flatMap_cons,List.length_append,ih,List.length_cons];simp;omega
theorem rowCells_get:∀(us:List (ByteArray×List UInt8×Value)) (j:Nat) (h:j<us.length),(rowCells us)[j*2]? =some (.string us[j].1)∧(rowCells us)[j*2+1]? =some us[j].2.2
 |x::us,0,_=>by simp[rowCells]
 |x::us,j+1,h=>by
  have ih:=rowCells_get us j (by simpa using h);have e:rowCells (x::us)= .string x.1::x.2.2::rowCells us:=by simp[rowCells]
  rw[e,show(j+1)*2=j*2+1+1 from by omega,show j*2+1+1+1=(j*2+1)+1+1 from rfl]
  simpa using ih
def OR(e eR:TypeId)(w:World)(base:Nat)(v:Value)(rs:List (ByteArray×List UInt8)):Prop:=
 ∃us:List (ByteArray×List UInt8×Value),us.map (fun x=>(x.1,x.2.1))=rs∧w.ownsRow base eR 2 v us.length (rowCells us)∧∀x∈us,FB e w base x.2.2 x.2.1
theorem OR.nil_(e eR:TypeId)(w:World)(base:Nat):OR e eR w base (.slice none 0 0) []:=⟨[],rfl,World.ownsRow_nil _ _ _ _,fun _ h=>by cases h⟩
theorem OR.rr{e eR:TypeId}{w:World}{base:Nat}{v:Value}{rs:List (ByteArray×List UInt8)}(h:OR e eR w base v rs):RR w v rs:=by
 obtain⟨us,rfl,ho,hf⟩:=h;rcases ho.2 with ⟨rfl,h0⟩|⟨g,cap,cur,rfl,hb,hg,hnc,hcm,hcs,ht⟩
 ·have:us= []:=List.eq_nil_of_length_eq_zero h0
  subst this;exact⟨none,0,rfl,Nat.le_refl _,Nat.zero_le _,.inl rfl⟩
 ·refine⟨some ⟨g,0,none⟩,cap,by rw[List.length_map],by rw[List.length_map];exact hnc,hcm,.inr ⟨g,0,rfl,(Array.getElem?_eq_some_iff.1 hg).1,fun j hj=>?_⟩⟩
  rw[List.length_map] at hj;have hc:=rowCells_get us j hj;have h1:=ho.cells (g:=g) rfl _ _ hc.1;have h2:=ho.cells (g:=g) rfl _ _ hc.2;rw[Addr.add_lit] at h1 h2;refine⟨by simpa using h1,us[j].2.2,by simpa [Nat.add_assoc] using h2,?_⟩;have:=(hf us[j] (List.getElem_mem hj)).rb
  simpa using this
theorem OR.below{e eR:TypeId}{w w':World}{base:Nat}{v:Value}{rs:List (ByteArray×List UInt8)}(h:OR e eR w base v rs)(hb:Below w.heap.size w w'):OR e eR w' base v rs:=by
 obtain⟨us,h1,ho,hf⟩:=h;exact⟨us,h1,own_below ho hb,fun x hx=>(hf x hx).below hb⟩
theorem OR.base_{e eR:TypeId}{w:World}{base base':Nat}{v:Value}{rs:List (ByteArray×List UInt8)}(h:OR e eR w base v rs)(hb:base'≤base):OR e eR w base' v rs:=by
 obtain⟨us,h1,ho,hf⟩:=h;exact⟨us,h1,own_base ho hb,fun x hx=>(hf x hx).base_ hb⟩
theorem OR.alloc{e eR:TypeId}{w:World}{base:Nat}{v:Value}{rs:List (ByteArray×List UInt8)}(h:OR e eR w base v rs)(o:Obj):OR e eR (w.alloc o) base v rs:=
 h.below ((Below.refl _ _).alloc (Nat.le_refl _) o)
theorem OR.push{e eR:TypeId}{w w':World}{base:Nat}{v v' u:Value}{us:List (ByteArray×List UInt8×Value)}{k:ByteArray}{l:List UInt8}(hne:e≠eR)
  (ho:w.ownsRow base eR 2 v us.length (rowCells us)) (hf:∀x∈us,FB e w base x.2.2 x.2.1) (hu:FB e w base u l)
  (ho':w'.ownsRow base eR 2 v' (us.length+1) (rowCells us++ [.string k,u])) (hg:w.grownBy w' v.ownBlock):OR e eR w' base v' (us.map (fun x=>(x.1,x.2.1))++ [(k,l)]):=by
 refine⟨us++ [(k,l,u)],by simp,by unfold rowCells at ho'⊢;rw[List.length_append,List.flatMap_append];exact ho',fun x hx=>?_⟩;rcases List.mem_append.1 hx with hx|hx
 ·exact(hf x hx).grown ho hne hg
 ·simp at hx
  subst hx;exact hu.grown ho hne hg
end Go.Rst
namespace Go.Rst
theorem drop_cons{L rest:List UInt8}{q:Nat}{c:UInt8}(h:L.drop q=c::rest):q<L.length∧L.getD q 0=c∧L.drop (q+1)=rest:=by
 have hl:q<L.length:=by
  rcases Nat.lt_or_ge q L.length with h'|h'
  ·exact h'
  ·rw[List.drop_eq_nil_of_le h'] at h;cases h
 rw[List.drop_eq_getElem_cons hl] at h;injection h with h1 h2;exact⟨hl,by rw[List.getD_eq_getElem?_getD,List.getElem?_eq_getElem hl,←h1];rfl,h2⟩
theorem gnumF_cons{L rest:List UInt8}{q:Nat}{c:UInt8}(h:L.drop q=c::rest)(f i acc:Nat):
  gnumF L (f+1) i acc (q:Int)=if 128≤c.toNat then gnumF L f (i+1) (acc+c.toNat%128*128^i) ((q+1:Nat):Int)
   else if (c.toNat=0∧0<i)∨9007199254740992<acc+c.toNat%128*128^i then (0,0,11) else (((acc+c.toNat%128*128^i:Nat):Int),(q:Int)+1,0):=by
 obtain⟨h1,h2,h3⟩:=drop_cons h;rw[gnumF,if_neg (by omega),Int.toNat_natCast,h2];rfl
theorem byte_val{m:Nat}(h:m<256):(UInt8.ofNat m).toNat=m:=by rw[UInt8.toNat_ofNat'];exact Nat.mod_eq_of_lt (by omega)
theorem gnumF_back:∀(f n i acc q:Nat) (L post:List UInt8),L.drop q=numL n++post→(numL n).length≤f→acc+n*128^i≤9007199254740992→(0<n∨i=0)→
  gnumF L f i acc (q:Int)=(((acc+n*128^i:Nat):Int),((q+(numL n).length:Nat):Int),0)
 |0,n,i,acc,q,L,post,_,hf,_,_=>by have:=numL_pos n;omega
 |f+1,n,i,acc,q,L,post,h,hf,hm,hz=>by
  by_cases hn:n<128
  ·rw[numL_lt hn] at h⊢
   rw[gnumF_cons h,byte_val (by omega),Nat.mod_eq_of_lt hn,if_neg (by omega),if_neg (by omega)];simp
  ·rw[numL_ge (by omega)] at h hf⊢
   have hd:=(drop_cons h).2.2;rw[gnumF_cons h,byte_val (by omega),if_pos (by omega)];have e1:(n%128+128)%128=n%128:=by omega
   have e2:acc+n%128*128^i+n/128*128^(i+1)=acc+n*128^i:=by
    have h1:n/128*128^(i+1)=128*(n/128)*128^i:=by rw[Nat.pow_succ];rw[Nat.mul_comm (128^i) 128,←Nat.mul_assoc,Nat.mul_comm (n/128) 128]
    rw[h1,Nat.add_assoc,←Nat.add_mul]
    congr 2
    omega
   rw[e1,gnumF_back f (n/128) (i+1) (acc+n%128*128^i) (q+1) L post hd (by simpa using hf) (by rw[e2];exact hm) (.inl (by omega)),e2];simp;omega
theorem getNum_back{n q:Nat}{L post:List UInt8}(h:L.drop q=numL n++post)(hn:n≤9007199254740992):getNum L (q:Int)=((n:Int),((q+(numL n).length:Nat):Int),0):=by
 have:=gnumF_back 8 n 0 0 q L post h (numL_len8 hn) (by simpa using hn) (.inr rfl)
 simpa [getNum] using this
def textL(s:List UInt8):List UInt8:=numL s.length++s
theorem getText_back{s L post:List UInt8}{q:Nat}(h:L.drop q=textL s++post)(hs:s.length≤1000000000)(most:Int):
  getText L (q:Int) most=if most<(s.length:Int) then ([],0,3) else (s,((q+(textL s).length:Nat):Int),0):=by
 have h0:L.drop q=numL s.length++(s++post):=by rw[h,textL,List.append_assoc]
 have hg:=getNum_back h0 (by omega);have hlen:L.length-q=(numL s.length).length+(s.length+post.length):=by
  have:=congrArg List.length h0
  simpa using this
 have hpos:=numL_pos s.length;unfold getText;rw[hg];simp only[ne_eq,not_true_eq_false,if_false];by_cases hm:most<(s.length:Int)
 ·rw[if_pos hm,if_pos hm]
 ·rw[if_neg hm,if_neg hm,if_neg (by omega)]
  have e:L.drop (q+(numL s.length).length)=s++post:=by
   rw[←List.drop_drop,h0,List.drop_left]
  rw[Int.toNat_natCast,Int.toNat_natCast,e,List.take_left,textL,List.length_append];simp;omega
def rowL(k l:List UInt8):List UInt8:=textL k++textL l
theorem textL_len{l:List UInt8}(h:l.length≤1000000000):(textL l).length≤1000000008:=by
 have:=numL_len8 (n:=l.length) (by omega);unfold textL;rw[List.length_append];omega
theorem getText_spec(l:List UInt8)(p most:Int):((getText l p most).2.2=0∧0≤(getText l p most).2.1∧(getText l p most).2.1≤l.length∧p<(getText l p most).2.1∧0≤p∧((getText l p most).1.length:Int)≤most∧(getText l p most).1.length≤l.length)∨
  (((getText l p most).2.2=3∨(getText l p most).2.2=10∨(getText l p most).2.2=11)∧(getText l p most).1= []∧(getText l p most).2.1=0):=by
 have h:=getNum_spec l p;unfold getText;split
 ·rename_i hne
  rcases h with h|h
  ·exact absurd h.1 hne
  ·exact .inr ⟨by simp only[];omega,rfl,rfl⟩
 ·rename_i hz
  rcases h with h|h
  ·split
   ·exact .inr ⟨.inl rfl,rfl,rfl⟩
   ·split
    ·exact .inr ⟨.inr (.inl rfl),rfl,rfl⟩
    ·refine .inl ⟨rfl,by simp only[];omega,by simp only[];omega,by simp only[];omega,by omega,?_,?_⟩
     ·simp only[List.length_take,List.length_drop];omega
     ·simp only[List.length_take,List.length_drop];omega
  ·exfalso;omega
end Go.Rst
namespace Go.Rst
open Go.RowKit
abbrev Chg:=ByteArray×List UInt8×Bool
def RC(w:World)(v:Value)(rs:List Chg):Prop:=
 ∃A c,v= .slice A rs.length c∧rs.length≤c∧c≤maxLen∧(rs= []∨∃b off,A=some ⟨b,off,none⟩∧b<w.heap.size∧
  ∀j (h:j<rs.length),w.cell? ⟨b,off+j*3,none⟩=some (.string rs[j].1)∧(∃u,w.cell? ⟨b,off+j*3+1,none⟩=some u∧RB w u rs[j].2.1)∧w.cell? ⟨b,off+j*3+2,none⟩=some (.bool rs[j].2.2))
def chCells(us:List (Chg×Value)):List Value:=us.flatMap fun x=> [.string x.1.1,x.2,.bool x.1.2.2]
theorem chCells_get:∀(us:List (Chg×Value)) (j:Nat) (h:j<us.length),(chCells us)[j*3]? =some (.string us[j].1.1)∧(chCells us)[j*3+1]? =some us[j].2∧(chCells us)[j*3+2]? =some (.bool us[j].1.2.2)
 |x::us,0,_=>by simp[chCells]
 |x::us,j+1,h=>by
  have ih:=chCells_get us j (by simpa using h);have e:chCells (x::us)= .string x.1.1::x.2:: .bool x.1.2.2::chCells us:=by simp[chCells]
  rw[e,show(j+1)*3=j*3+1+1+1 from by omega,show j*3+1+1+1+1=(j*3+1)+1+1+1 from rfl,show j*3+1+1+1+2=(j*3+2)+1+1+1 from rfl]
  simpa using ih
def OC(e eR:TypeId)(w:World)(base:Nat)(v:Value)(rs:List Chg):Prop:=
 ∃us:List (Chg×Value),us.map (·.1)=rs∧w.ownsRow base eR 3 v us.length (chCells us)∧∀x∈us,FB e w base x.2 x.1.2.1
theorem OC.nil_(e eR:TypeId)(w:World)(base:Nat):OC e eR w base (.slice none 0 0) []:=⟨[],rfl,World.ownsRow_nil _ _ _ _,fun _ h=>by cases h⟩
theorem OC.rc{e eR:TypeId}{w:World}{base:Nat}{v:Value}{rs:List Chg}(h:OC e eR w base v rs):RC w v rs:=by
 obtain⟨us,rfl,ho,hf⟩:=h;rcases ho.2 with ⟨rfl,h0⟩|⟨g,cap,cur,rfl,hb,hg,hnc,hcm,hcs,ht⟩
 ·have:us= []:=List.eq_nil_of_length_eq_zero h0
  subst this;exact⟨none,0,rfl,Nat.le_refl _,Nat.zero_le _,.inl rfl⟩
 ·refine⟨some ⟨g,0,none⟩,cap,by rw[List.length_map],by rw[List.length_map];exact hnc,hcm,.inr ⟨g,0,rfl,(Array.getElem?_eq_some_iff.1 hg).1,fun j hj=>?_⟩⟩
  rw[List.length_map] at hj;have hc:=chCells_get us j hj;have h1:=ho.cells (g:=g) rfl _ _ hc.1;have h2:=ho.cells (g:=g) rfl _ _ hc.2.1;have h3:=ho.cells (g:=g) rfl _ _ hc.2.2;rw[Addr.add_lit] at h1 h2 h3;refine⟨by simpa using h1,⟨us[j].2,by simpa [Nat.add_assoc] using h2,?_⟩,by simpa [Nat.add_assoc] using h3⟩;have:=(hf us[j] (List.getElem_mem hj)).rb
  simpa using this
theorem OC.below{e eR:TypeId}{w w':World}{base:Nat}{v:Value}{rs:List Chg}(h:OC e eR w base v rs)(hb:Below w.heap.size w w'):OC e eR w' base v rs:=by
 obtain⟨us,h1,ho,hf⟩:=h;exact⟨us,h1,own_below ho hb,fun x hx=>(hf x hx).below hb⟩
theorem OC.base_{e eR:TypeId}{w:World}{base base':Nat}{v:Value}{rs:List Chg}(h:OC e eR w base v rs)(hb:base'≤base):OC e eR w base' v rs:=by
 obtain⟨us,h1,ho,hf⟩:=h;exact⟨us,h1,own_base ho hb,fun x hx=>(hf x hx).base_ hb⟩
theorem OC.setCell{e eR:TypeId}{w:World}{base:Nat}{v:Value}{rs:List Chg}(h:OC e eR w base v rs){p:Addr}(hp:p.block<base)(u:Value):OC e eR (w.setCell p u) base v rs:=by
 obtain⟨us,h1,ho,hf⟩:=h;exact⟨us,h1,ownsRow_setCell_below ho hp u,fun x hx=>(hf x hx).setCell hp u⟩
theorem OC.alloc{e eR:TypeId}{w:World}{base:Nat}{v:Value}{rs:List Chg}(h:OC e eR w base v rs)(o:Obj):OC e eR (w.alloc o) base v rs:=
 h.below ((Below.refl _ _).alloc (Nat.le_refl _) o)
theorem OC.push{e eR:TypeId}{w w':World}{base:Nat}{v v' u:Value}{us:List (Chg×Value)}{k:ByteArray}{l:List UInt8}{b:Bool}(hne:e≠eR)
  (ho:w.ownsRow base eR 3 v us.length (chCells us)) (hf:∀x∈us,FB e w base x.2 x.1.2.1) (hu:FB e w base u l)
  (ho':w'.ownsRow base eR 3 v' (us.length+1) (chCells us++ [.string k,u,.bool b])) (hg:w.grownBy w' v.ownBlock):OC e eR w' base v' (us.map (·.1)++ [(k,l,b)]):=by
 refine⟨us++ [((k,l,b),u)],by simp,by unfold chCells at ho'⊢;rw[List.length_append,List.flatMap_append];exact ho',fun x hx=>?_⟩;rcases List.mem_append.1 hx with hx|hx
 ·exact(hf x hx).grown ho hne hg
 ·simp at hx
  subst hx;exact hu.grown ho hne hg
end Go.Rst
namespace Go.Pg
open Go.Rst Go.Crc
abbrev Rw:=ByteArray×List UInt8
def rowB(r:Rw):List UInt8:=rowL r.1.data.toList r.2
def rsz(r:Rw):Nat:=1+(rowB r).length
def fitF:List Rw→Nat→Nat
 | [],_=>0
 |r::rs,left=>if 30<r.1.size∨150<r.2.length then 0 else if left<rsz r then 0 else 1+fitF rs (left-rsz r)
def fitN(rs:List Rw):Nat:=fitF rs 250
theorem fitF_le:∀(rs:List Rw) (left:Nat),fitF rs left≤rs.length
 | [],_=>Nat.le_refl _
 |r::rs,left=>by
  unfold fitF;have:=fitF_le rs (left-rsz r);simp only[List.length_cons];split
  ·omega
  ·split <;>omega
theorem fitF_take:∀(m:Nat) (rs:List Rw) (left:Nat),fitF (rs.take m) left=min m (fitF rs left)
 |0,rs,left=>by simp[fitF]
 |m+1,[],left=>by simp[fitF]
 |m+1,r::rs,left=>by
  have:=fitF_take m rs (left-rsz r);rw[List.take_succ_cons];unfold fitF;rw[this];split
  ·simp
  ·split
   ·simp
   ·omega
theorem fitN_le(rs:List Rw):fitN rs≤rs.length:=fitF_le rs 250
theorem fitN_take(rs:List Rw)(m:Nat):fitN (rs.take m)=min m (fitN rs):=fitF_take m rs 250
theorem fitN_fit(rs:List Rw):fitN (rs.take (fitN rs))=(rs.take (fitN rs)).length:=by
 have:=fitN_le rs;rw[fitN_take,List.length_take];omega
theorem rowB_pos(r:Rw):2≤(rowB r).length:=by
 have h1:=numL_pos r.1.data.toList.length;have h2:=numL_pos r.2.length;unfold rowB rowL textL;simp only[List.length_append];omega
def body:List Rw→List UInt8
 | []=> []
 |r::rs=>body rs++rowB r
theorem body_snoc(r:Rw):∀rs:List Rw,body (rs++ [r])=rowB r++body rs
 | []=>by simp[body]
 |x::rs=>by rw[List.cons_append,body,body_snoc r rs,body,List.append_assoc]
theorem body_take{rs:List Rw}{k:Nat}(h:k<rs.length):body (rs.take (k+1))=rowB rs[k]++body (rs.take k):=by
 rw[List.take_succ_eq_append_getElem h,body_snoc]
def used(rs:List Rw):Nat:=rs.length+(body rs).length
theorem used_take{rs:List Rw}{k:Nat}(h:k<rs.length):used (rs.take (k+1))=used (rs.take k)+rsz rs[k]:=by
 unfold used rsz;rw[body_take h,List.length_append,List.length_take,List.length_take];omega
theorem used_cons(r:Rw)(rs:List Rw):used (r::rs)=rsz r+used rs:=by
 unfold used rsz;rw[body,List.length_append,List.length_cons];omega
theorem fitF_all:∀(rs:List Rw) (left:Nat),fitF rs left=rs.length↔(used rs≤left∧∀r∈rs,r.1.size≤30∧r.2.length≤150)
 | [],left=>by simp[fitF,used,body]
 |r::rs,left=>by
  have ih:=fitF_all rs (left-rsz r);have hp:1≤rsz r:=by unfold rsz;omega
  unfold fitF;rw[used_cons];simp only[List.length_cons,List.mem_cons,forall_eq_or_imp];split
  ·constructor
   ·intro h;omega
   ·intro h;omega
  ·split
   ·constructor
    ·intro h;omega
    ·intro h;omega
   ·constructor
    ·intro h
     have:=ih.1 (by omega);exact⟨by omega,⟨by omega,by omega⟩,this.2⟩
    ·intro h
     have:=ih.2 ⟨by omega,h.2.2⟩;omega
theorem fitN_all(rs:List Rw):fitN rs=rs.length↔(used rs≤250∧∀r∈rs,r.1.size≤30∧r.2.length≤150):=fitF_all rs 250
theorem fit_go{rs:List Rw}{k:Nat}(h:k<rs.length)(hu:used (rs.take k)≤250):
  fitF (rs.drop k) (250-used (rs.take k))=if 30<rs[k].1.size∨150<rs[k].2.length then 0 else if 250<used (rs.take (k+1)) then 0 else 1+fitF (rs.drop (k+1)) (250-used (rs.take (k+1))):=by
 rw[List.drop_eq_getElem_cons h,fitF,used_take h];split
 ·rfl
 ·split
  ·rw[if_pos (by omega)]
  ·rw[if_neg (by omega)]
   congr 2
   omega
def slot(rs:List Rw):UInt8:=UInt8.ofNat (252-(body rs).length)
def slots(rs:List Rw):List UInt8:=(List.range rs.length).map fun j=>slot (rs.take (j+1))
theorem slots_length(rs:List Rw):(slots rs).length=rs.length:=by simp[slots]
theorem slots_take{rs:List Rw}{k:Nat}(h:k<rs.length):slots (rs.take (k+1))=slots (rs.take k)++ [slot (rs.take (k+1))]:=by
 unfold slots;rw[List.length_take,List.length_take,Nat.min_eq_left (by omega),Nat.min_eq_left (by omega),List.range_succ,List.map_append]
 congr 1
 ·apply List.map_congr_left
  intro j hj;have hj:=List.mem_range.1 hj;rw[List.take_take,List.take_take,Nat.min_eq_left (by omega),Nat.min_eq_left (by omega)]
 ·simp[List.take_take]
def pageA(lev n:UInt8)(ss bd:List UInt8):List UInt8:=lev::n::(ss++(List.replicate (250-ss.length-bd.length) 0++bd))
theorem pageA_length{lev n:UInt8}{ss bd:List UInt8}(h:ss.length+bd.length≤250):(pageA lev n ss bd).length=252:=by
 simp[pageA];omega
theorem pageA_nil(lev n:UInt8):pageA lev n [] []=lev::n::List.replicate 250 0:=by
 unfold pageA;simp only[List.length_nil,Nat.sub_zero,List.append_nil,List.nil_append]
theorem pageA_zeros{lev n:UInt8}{ss bd:List UInt8}{m:Nat}(h:ss.length+m+bd.length≤250):pageA lev n ss (List.replicate m 0++bd)=pageA lev n ss bd:=by
 unfold pageA
 congr 3
 rw[←List.append_assoc,List.replicate_append_replicate]
 congr 2
 simp;omega
theorem pageA_slot{lev n:UInt8}{ss bd:List UInt8}(s:UInt8)(h:ss.length+bd.length<250):(pageA lev n ss bd).set (2+ss.length) s=pageA lev n (ss++ [s]) bd:=by
 unfold pageA;rw[show 2+ss.length=ss.length+1+1 from by omega,List.set_cons_succ,List.set_cons_succ,List.set_append_right _ _ (Nat.le_refl _),Nat.sub_self]
 congr 2
 obtain⟨z,hz⟩:∃z,250-ss.length-bd.length=z+1:=⟨250-ss.length-bd.length-1,by omega⟩
 rw[hz,List.replicate_succ,List.cons_append,List.set_cons_zero,List.length_append,show 250-(ss.length+ [s].length)-bd.length=z from by simp;omega];simp
theorem pageA_set{lev n:UInt8}{ss bd:List UInt8}{q:Nat}(c:UInt8)(hq:q<bd.length)(h:ss.length+bd.length≤250):(pageA lev n ss bd).set (252-bd.length+q) c=pageA lev n ss (bd.set q c):=by
 unfold pageA;rw[List.length_set];rw[show 252-bd.length+q=(250-bd.length+q)+1+1 from by omega,List.set_cons_succ,List.set_cons_succ,List.set_append_right _ _ (by omega),List.set_append_right _ _ (by simp;omega)]
 congr 5
 simp;omega
theorem row_set{row bd:List UInt8}{q:Nat}(h:q<row.length):(row.take q++(List.replicate (row.length-q) 0++bd)).set q row[q]=row.take (q+1)++(List.replicate (row.length-(q+1)) 0++bd):=by
 have hl:(row.take q).length=q:=by rw[List.length_take];omega
 rw[List.set_append_right _ _ (by omega),hl,Nat.sub_self,show row.length-q=(row.length-(q+1))+1 from by omega,List.replicate_succ,List.cons_append,List.set_cons_zero,List.take_succ_eq_append_getElem h,List.append_assoc];rfl
theorem pageA_lay{lev n:UInt8}{ss bd row:List UInt8}(h:ss.length+row.length+bd.length≤250):
  (pageA lev n ss bd).take (252-bd.length-row.length)++(row++(pageA lev n ss bd).drop (252-bd.length-row.length+row.length))=pageA lev n ss (row++bd):=by
 unfold pageA;rw[show 252-bd.length-row.length+row.length=(250-bd.length)+1+1 from by omega,show 252-bd.length-row.length=(250-bd.length-row.length)+1+1 from by omega];rw[List.take_succ_cons,List.take_succ_cons,List.drop_succ_cons,List.drop_succ_cons];have hz:(List.replicate (250-ss.length-bd.length) (0:UInt8)).length=250-ss.length-bd.length:=by simp
 rw[List.take_append,List.drop_append,List.take_of_length_le (by omega),List.drop_eq_nil_of_le (as:=ss) (by omega),List.take_append,List.drop_append,hz,
  List.take_replicate,Nat.min_eq_left (by omega),List.drop_eq_nil_of_le (as:=List.replicate _ _) (by omega),show 250-bd.length-row.length-ss.length-(250-ss.length-bd.length)=0 from by omega,
  show 250-bd.length-ss.length-(250-ss.length-bd.length)=0 from by omega,List.take_zero,List.drop_zero,List.length_append,
  show 250-bd.length-row.length-ss.length=250-ss.length-(row.length+bd.length) from by omega]
 simp only[List.append_nil,List.nil_append,List.cons_append,List.append_assoc]
def pageB(lev:Nat)(rs:List Rw):List UInt8:=pageA (UInt8.ofNat lev) (UInt8.ofNat rs.length) (slots rs) (body rs)
end Go.Pg
namespace Go.Pg
open Go.Rst Go.Crc
set_option linter.unusedSectionVars false
theorem body_split(m:Nat)(rs:List Rw):body rs=body (rs.drop m)++body (rs.take m):=by
 induction m generalizing rs with
 |zero=>simp[body]
 |succ m ih=>
  cases rs with
  |nil=>simp[body]
  |cons r rs=>rw[List.drop_succ_cons,List.take_succ_cons,body,body,ih rs,List.append_assoc]
theorem body_len(m:Nat)(rs:List Rw):(body (rs.take m)).length≤(body rs).length:=by
 rw[body_split m rs,List.length_append];omega
theorem pageA_drop{lev n:UInt8}{ss x bd:List UInt8}(h:ss.length+(x.length+bd.length)≤250):(pageA lev n ss (x++bd)).drop (252-bd.length)=bd:=by
 have hl:(pageA lev n ss (x++bd)).length=252:=pageA_length (by rw[List.length_append];exact h);have e:pageA lev n ss (x++bd)=(lev::n::(ss++(List.replicate (250-ss.length-(x++bd).length) 0++x)))++bd:=by
  unfold pageA;simp only[List.cons_append,List.append_assoc]
 have h1:=congrArg List.length e;rw[hl,List.length_append] at h1;rw[e,show 252-bd.length=(lev::n::(ss++(List.replicate (250-ss.length-(x++bd).length) 0++x))).length from by omega,List.drop_left]
theorem pageB_length{lev:Nat}{rs:List Rw}(h:used rs≤250):(pageB lev rs).length=252:=pageA_length (by rw[slots_length];exact h)
theorem pageB_drop{lev:Nat}{rs:List Rw}(h:used rs≤250)(m:Nat):(pageB lev rs).drop (252-(body (rs.take m)).length)=body (rs.take m):=by
 unfold pageB;rw[body_split m rs];apply pageA_drop;have h1:=body_split m rs;have h2:=congrArg List.length h1;rw[List.length_append] at h2;unfold used at h;rw[slots_length];omega
theorem slot_val{rs:List Rw}(_h:used rs≤250)(m:Nat):(slot (rs.take m)).toNat=252-(body (rs.take m)).length:=by
 unfold slot;rw[UInt8.toNat_ofNat'];omega
theorem getD_append{l m:List UInt8}{i:Nat}(h:i<l.length):(l++m).getD i 0=l.getD i 0:=by
 rw[List.getD_eq_getElem?_getD,List.getD_eq_getElem?_getD,List.getElem?_append_left h]
theorem pageB_slot{lev:Nat}{rs:List Rw}{i:Nat}(hi:i<rs.length):(pageB lev rs).getD (2+i) 0=slot (rs.take (i+1)):=by
 unfold pageB pageA;rw[show 2+i=i+1+1 from by omega,List.getD_cons_succ,List.getD_cons_succ,getD_append (by rw[slots_length];exact hi),List.getD_eq_getElem?_getD];unfold slots;simp[hi]
def slotRow(b:List UInt8)(s:Nat):Option Rw:=
 if (getText b s 30).2.2≠0 then none else
 if (getText b (getText b s 30).2.1 150).2.2≠0 then none else some (⟨(getText b s 30).1.toArray⟩,(getText b (getText b s 30).2.1 150).1)
def slotsF(b:List UInt8):Nat→Nat→List Rw→Option (List Rw)
 |0,_,acc=>some acc
 |f+1,i,acc=>match slotRow b (b.getD (2+i) 0).toNat with
  |none=>none
  |some r=>slotsF b f (i+1) (acc++ [r])
def slotted(b:List UInt8):Option (List Rw):=if 250<(b.getD 1 0).toNat then none else slotsF b (b.getD 1 0).toNat 0 []
def refRow(b:List UInt8)(i e:Nat):Option (Rw×Nat):=
 if e≤2+i then none else if e≤(b.getD (2+i) 0).toNat then none else
 if (getText (b.take e) (b.getD (2+i) 0).toNat 30).2.2≠0 then none else
 if (getText (b.take e) (getText (b.take e) (b.getD (2+i) 0).toNat 30).2.1 150).2.2=0∧(getText (b.take e) (getText (b.take e) (b.getD (2+i) 0).toNat 30).2.1 150).2.1=e
 then some ((⟨(getText (b.take e) (b.getD (2+i) 0).toNat 30).1.toArray⟩,(getText (b.take e) (getText (b.take e) (b.getD (2+i) 0).toNat 30).2.1 150).1),(b.getD (2+i) 0).toNat) else none
def refG(b:List UInt8):Nat→Nat→Nat→List Rw→Option (List Rw)
 |0,_,_,acc=>some acc
 |f+1,i,e,acc=>match refRow b i e with
  |none=>none
  |some (r,s)=>refG b f (i+1) s (acc++ [r])
def refRows(b:List UInt8):Option (List Rw):=refG b (b.getD 1 0).toNat 0 252 []
def pageOk(lev:Int)(rs:List Rw):Bool:=decide (0≤lev∧lev≤4∧fitN rs=rs.length)
def encL(lev:Int)(rs:List Rw):List UInt8:=if pageOk lev rs then sealL (pageB lev.toNat rs) else []
def decR(b:List UInt8):Nat×List Rw×Nat:=
 if b.length≠256 then (0,[],11) else if rightL b=false then (0,[],12) else match slotted b with
 |none=>(0,[],11)
 |some l=>if pageOk ((b.getD 0 0).toNat:Int) l=true∧encL ((b.getD 0 0).toNat:Int) l=b then ((b.getD 0 0).toNat,l,0) else (0,[],11)
def refDec(b:List UInt8):Nat×List Rw×Nat:=
 if b.length≠256 then (0,[],11) else if rightL b=false then (0,[],12) else match refRows b with
 |none=>(0,[],11)
 |some l=>if pageOk ((b.getD 0 0).toNat:Int) l=true∧encL ((b.getD 0 0).toNat:Int) l=b then ((b.getD 0 0).toNat,l,0) else (0,[],11)
section
variable {lev:Nat} {rs:List Rw} (hu:used rs≤250) (hr:∀r∈rs,r.1.size≤30∧r.2.length≤150)
include hu hr
theorem row_at{i:Nat}(hi:i<rs.length){L post:List UInt8}{q:Nat}(h:L.drop q=rowB rs[i]++post):
  (getText L (q:Int) 30)=(rs[i].1.data.toList,((q+(textL rs[i].1.data.toList).length:Nat):Int),0)∧
  (getText L ((q+(textL rs[i].1.data.toList).length:Nat):Int) 150)=(rs[i].2,((q+(rowB rs[i]).length:Nat):Int),0):=by
 have h1:=hr rs[i] (List.getElem_mem hi);have hs:rs[i].1.data.toList.length=rs[i].1.size:=by rw[Array.length_toList];rfl
 have h2:L.drop q=textL rs[i].1.data.toList++(textL rs[i].2++post):=by rw[h];unfold rowB rowL;rw[List.append_assoc]
 have e1:=getText_back h2 (by omega) 30;rw[if_neg (by omega)] at e1;have h3:L.drop (q+(textL rs[i].1.data.toList).length)=textL rs[i].2++post:=by rw[←List.drop_drop,h2,List.drop_left]
 have e2:=getText_back h3 (by omega) 150;rw[if_neg (by omega)] at e2;refine⟨e1,?_⟩;rw[e2];unfold rowB rowL;rw[List.length_append,Nat.add_assoc]
theorem page_row(i:Nat)(hi:i<rs.length):slotRow (sealL (pageB lev rs)) (slot (rs.take (i+1))).toNat=some rs[i]:=by
 have hd:=pageB_drop (lev:=lev) hu (i+1);have hl:=pageB_length (lev:=lev) hu;rw[slot_val hu];have hb:=body_len (i+1) rs;have hd2:(sealL (pageB lev rs)).drop (252-(body (rs.take (i+1))).length)=rowB rs[i]++(body (rs.take i)++tailL (csum (pageB lev rs))):=by
  unfold sealL;rw[List.drop_append_of_le_length (by rw[hl];omega),hd,body_take hi,List.append_assoc]
 obtain⟨e1,e2⟩:=row_at hu hr hi hd2;unfold slotRow;rw[e1];simp only[ne_eq,not_true_eq_false,if_false];rw[e2];simp
theorem page_refRow(i:Nat)(hi:i<rs.length):refRow (sealL (pageB lev rs)) i (252-(body (rs.take i)).length)=some (rs[i],252-(body (rs.take (i+1))).length):=by
 have hd:=pageB_drop (lev:=lev) hu (i+1);have hl:=pageB_length (lev:=lev) hu;have hb:=body_len (i+1) rs;have vy:=congrArg List.length (body_take hi);rw[List.length_append] at vy;have hp:=rowB_pos rs[i];have hu2:rs.length+(body rs).length≤250:=hu;have hs:((sealL (pageB lev rs)).getD (2+i) 0).toNat=252-(body (rs.take (i+1))).length:=by
  unfold sealL;rw[getD_append (by rw[hl];omega),pageB_slot hi,slot_val hu]
 have hd2:((sealL (pageB lev rs)).take (252-(body (rs.take i)).length)).drop (252-(body (rs.take (i+1))).length)=rowB rs[i]++ []:=by
  unfold sealL;rw[List.take_append_of_le_length (by rw[hl];omega),List.drop_take,hd,body_take hi,List.append_nil];rw[show 252-(body (rs.take i)).length-(252-(rowB rs[i]++body (rs.take i)).length)=(rowB rs[i]).length from by rw[List.length_append];omega,List.take_left]
 obtain⟨e1,e2⟩:=row_at hu hr hi hd2;unfold refRow;rw[hs,if_neg (by omega),if_neg (by omega),e1];simp only[ne_eq,not_true_eq_false,if_false];rw[e2];simp only[true_and];rw[if_pos (by omega)]
theorem page_slots:∀(f i:Nat) (acc:List Rw),f+i=rs.length→acc=rs.take i→slotsF (sealL (pageB lev rs)) f i acc=some rs
 |0,i,acc,h,ha=>by
  rw[slotsF,ha,List.take_of_length_le (by omega)]
 |f+1,i,acc,h,ha=>by
  have hi:i<rs.length:=by omega
  have hl:=pageB_length (lev:=lev) hu;have hu2:rs.length+(body rs).length≤250:=hu;have hs:(sealL (pageB lev rs)).getD (2+i) 0=slot (rs.take (i+1)):=by
   unfold sealL;rw[getD_append (by rw[hl];omega),pageB_slot hi]
  rw[slotsF,hs,page_row hu hr i hi];exact page_slots f (i+1) _ (by omega) (by rw[ha,List.take_succ_eq_append_getElem hi])
theorem page_refs:∀(f i:Nat) (acc:List Rw),f+i=rs.length→acc=rs.take i→refG (sealL (pageB lev rs)) f i (252-(body (rs.take i)).length) acc=some rs
 |0,i,acc,h,ha=>by
  rw[refG,ha,List.take_of_length_le (by omega)]
 |f+1,i,acc,h,ha=>by
  have hi:i<rs.length:=by omega
  rw[refG,page_refRow hu hr i hi];exact page_refs f (i+1) _ (by omega) (by rw[ha,List.take_succ_eq_append_getElem hi])
theorem page_count:((sealL (pageB lev rs)).getD 1 0).toNat=rs.length:=by
 have hu2:rs.length+(body rs).length≤250:=hu;unfold sealL pageB pageA;simp only[List.cons_append,List.getD_cons_succ,List.getD_cons_zero,UInt8.toNat_ofNat'];omega
end
theorem page_level(lev:Nat)(h:lev≤4)(rs:List Rw):((sealL (pageB lev rs)).getD 0 0).toNat=lev:=by
 unfold sealL pageB pageA;simp only[List.cons_append,List.getD_cons_zero,UInt8.toNat_ofNat'];omega
theorem slotted_back{lev:Nat}{rs:List Rw}(hf:fitN rs=rs.length):slotted (sealL (pageB lev rs))=some rs:=by
 obtain⟨hu,hr⟩:=(fitN_all rs).1 hf;have hu2:rs.length+(body rs).length≤250:=hu;unfold slotted;rw[page_count hu hr,if_neg (by omega)];exact page_slots hu hr _ 0 [] (by omega) rfl
theorem refRows_back{lev:Nat}{rs:List Rw}(hf:fitN rs=rs.length):refRows (sealL (pageB lev rs))=some rs:=by
 obtain⟨hu,hr⟩:=(fitN_all rs).1 hf;unfold refRows;rw[page_count hu hr];have:=page_refs (lev:=lev) hu hr rs.length 0 [] (by omega) rfl
 simpa [body] using this
theorem encL_length{lev:Int}{rs:List Rw}(h:pageOk lev rs=true):(encL lev rs).length=256:=by
 unfold encL;rw[if_pos h];unfold pageOk at h;simp only[decide_eq_true_eq] at h;have:=pageB_length (lev:=lev.toNat) ((fitN_all rs).1 h.2.2).1;unfold sealL tailL;rw[List.length_append,this];rfl
theorem right_seal(l:List UInt8):rightL (sealL l)=true:=rightL_seal l
theorem dec_enc{lev:Int}{rs:List Rw}(h:pageOk lev rs=true):decR (encL lev rs)=(lev.toNat,rs,0):=by
 have hl:=encL_length h;have he:encL lev rs=sealL (pageB lev.toNat rs):=by unfold encL;rw[if_pos h]
 have h':=h;unfold pageOk at h';simp only[decide_eq_true_eq] at h';have eh:=page_level lev.toNat (by omega) rs;have hb:=slotted_back (lev:=lev.toNat) h'.2.2;have hi:((lev.toNat:Nat):Int)=lev:=by omega
 rw[←he] at eh hb;unfold decR;rw[if_neg (by simp[hl]),hb,eh,he,right_seal];simp only[Bool.true_eq_false,if_false];rw[hi,if_pos ⟨h,by rw[he]⟩]
theorem dec_same(b:List UInt8):decR b=refDec b:=by
 unfold decR refDec;by_cases h1:b.length≠256
 ·rw[if_pos h1,if_pos h1]
 ·rw[if_neg h1,if_neg h1]
  by_cases h2:rightL b=false
  ·rw[if_pos h2,if_pos h2]
  ·rw[if_neg h2,if_neg h2]
   have key:∀l,(pageOk ((b.getD 0 0).toNat:Int) l=true∧encL ((b.getD 0 0).toNat:Int) l=b)→slotted b=some l∧refRows b=some l:=by
    intro l ⟨h,he⟩;have h':=h;unfold pageOk at h';simp only[decide_eq_true_eq] at h';have he':sealL (pageB (b.getD 0 0).toNat l)=b:=by
     have e:=he;unfold encL at e;rw[if_pos h,Int.toNat_natCast] at e;exact e
    have a1:=slotted_back (lev:=(b.getD 0 0).toNat) h'.2.2;have a2:=refRows_back (lev:=(b.getD 0 0).toNat) h'.2.2;rw[he'] at a1 a2;exact⟨a1,a2⟩
   cases hs:slotted b with
   |none=>
    cases hr:refRows b with
    |none=>rfl
    |some l=>
     simp only[];by_cases hk:pageOk ((b.getD 0 0).toNat:Int) l=true∧encL ((b.getD 0 0).toNat:Int) l=b
     ·have:=(key l hk).1;rw[hs] at this;cases this
     ·rw[if_neg hk]
   |some l=>
    simp only[];by_cases hk:pageOk ((b.getD 0 0).toNat:Int) l=true∧encL ((b.getD 0 0).toNat:Int) l=b
    ·have:=(key l hk).2
     rw[if_pos hk,this];simp only[];rw[if_pos hk]
    ·rw[if_neg hk]
     cases hr:refRows b with
     |none=>rfl
     |some m=>
      simp only[];by_cases hm:pageOk ((b.getD 0 0).toNat:Int) m=true∧encL ((b.getD 0 0).toNat:Int) m=b
      ·have:=(key m hm).1
       rw[hs] at this;injection this with this;subst this;exact(hk hm).elim
      ·rw[if_neg hm]
end Go.Pg
namespace Go.Pg
def sle(a b:ByteArray):Bool:=Op.bytesLess a.toList b.toList||a.toList==b.toList
theorem sle_cases(a b:ByteArray):(sle a b=true∧Op.bytesLess a.toList b.toList=true)∨(sle a b=true∧Op.bytesLess a.toList b.toList=false∧(a.toList==b.toList)=true)∨(sle a b=false∧Op.bytesLess a.toList b.toList=false∧(a.toList==b.toList)=false):=by
 unfold sle;cases h1:Op.bytesLess a.toList b.toList
 ·cases h2:a.toList==b.toList
  ·exact .inr (.inr ⟨rfl,rfl,rfl⟩)
  ·exact .inr (.inl ⟨rfl,rfl,rfl⟩)
 ·exact .inl ⟨rfl,rfl⟩
end Go.Pg
namespace Go.Pg
open Go.Rst Go.Crc
def risingA:ByteArray→List Rw→Bool
 |_,[]=>true
 |k,r::rs=> !(sle r.1 k) && risingA r.1 rs
def risingL:List Rw→Bool
 | []=>true
 |r::rs=>risingA r.1 rs
def chunkF:Nat→List (List Rw)→List Rw→Option (List (List Rw))
 |0,cs,_=>some cs
 |f+1,cs,l=>if l= []∧cs≠ [] then some cs else if fitN l=0∧l≠ [] then none else chunkF f (cs++ [l.take (fitN l)]) (l.drop (fitN l))
def chunks(l:List Rw):Option (List (List Rw)):=chunkF (l.length+1) [] l
def headKey(c:List Rw):ByteArray:=match c with
 | []=>⟨#[]⟩
 |r::_=>r.1
def aboveF(from_:Nat)(cs:List (List Rw)):List Rw:=cs.zipIdx.map fun x=>(headKey x.1,numL (from_+x.2))
theorem above_snoc(from_:Nat)(cs:List (List Rw))(c:List Rw):aboveF from_ (cs++ [c])=aboveF from_ cs++ [(headKey c,numL (from_+cs.length))]:=by
 unfold aboveF;rw[List.zipIdx_append,List.map_append];simp
theorem above_len(from_:Nat)(cs:List (List Rw)):(aboveF from_ cs).length=cs.length:=by simp[aboveF]
def pagesF(n:Int)(cs:List (List Rw)):List (List UInt8):=cs.map (encL n)
theorem pages_snoc(n:Int)(cs:List (List Rw))(c:List Rw):pagesF n (cs++ [c])=pagesF n cs++ [encL n c]:=by simp[pagesF]
theorem pages_len(n:Int)(cs:List (List Rw)):(pagesF n cs).length=cs.length:=by simp[pagesF]
def levelL(n:Int)(from_:Nat)(l:List Rw):Option (List (List UInt8)×List Rw):=(chunks l).map fun cs=>(pagesF n cs,aboveF from_ cs)
def buildF:Nat→Nat→List (List UInt8)→List Rw→Option (List (List UInt8))
 |0,_,_,_=>none
 |f+1,n,all,l=>match levelL n all.length l with
  |none=>none
  |some (p,a)=>if p.length=1 then some (all++p) else buildF f (n+1) (all++p) a
def buildL(l:List Rw):Option (List (List UInt8)):=if risingL l=false∨5000<l.length then none else buildF 5 0 [] l
end Go.Pg
namespace Go.Pg
open Go.Rst Go.Crc
theorem bl_irrefl:∀a:List UInt8,Op.bytesLess a a=false
 | []=>by simp[Op.bytesLess]
 |x::a=>by simp[Op.bytesLess,bl_irrefl a]
theorem bl_trans:∀a b c:List UInt8,Op.bytesLess a b=true→Op.bytesLess b c=true→Op.bytesLess a c=true
 |_,[],_,h,_=>by simp[Op.bytesLess] at h
 |_,_::_,[],_,h=>by simp[Op.bytesLess] at h
 | [],_::_,_::_,_,_=>by simp[Op.bytesLess]
 |x::a,y::b,z::c,h1,h2=>by
  simp only[Op.bytesLess,Bool.or_eq_true,decide_eq_true_eq,Bool.and_eq_true,beq_iff_eq] at h1 h2⊢;rcases h1 with h1|⟨rfl,h1⟩
  ·rcases h2 with h2|⟨rfl,h2⟩
   ·exact .inl (UInt8.lt_trans h1 h2)
   ·exact .inl h1
  ·rcases h2 with h2|⟨rfl,h2⟩
   ·exact .inl h2
   ·exact .inr ⟨rfl,bl_trans a b c h1 h2⟩
theorem bl_total:∀a b:List UInt8,Op.bytesLess a b=false→a≠b→Op.bytesLess b a=true
 | [],[],_,h=>(h rfl).elim
 |_::_,[],_,_=>by simp[Op.bytesLess]
 | [],_::_,h,_=>by simp[Op.bytesLess] at h
 |x::a,y::b,h,hn=>by
  simp only[Op.bytesLess,Bool.or_eq_false_iff,decide_eq_false_iff_not,Bool.and_eq_false_iff,beq_eq_false_iff_ne] at h;simp only[Op.bytesLess,Bool.or_eq_true,decide_eq_true_eq,Bool.and_eq_true,beq_iff_eq];obtain⟨h1,h2⟩:=h;by_cases he:x=y
  ·subst he
   rcases h2 with h2|h2
   ·exact(h2 rfl).elim
   ·exact .inr ⟨rfl,bl_total a b h2 (fun e=>hn (by rw[e]))⟩
  ·left
   rcases Nat.lt_trichotomy x.toNat y.toNat with h3|h3|h3
   ·exact(h1 (by simpa [UInt8.lt_iff_toNat_lt] using h3)).elim
   ·exact(he (UInt8.toNat_inj.1 h3)).elim
   ·simpa [UInt8.lt_iff_toNat_lt] using h3
def kl(r:Rw):List UInt8:=r.1.toList
def lt(a b:Rw):Prop:=Op.bytesLess (kl a) (kl b)=true
def Sorted(l:List Rw):Prop:=l.Pairwise lt
theorem sle_false{a b:ByteArray}(h:sle a b=false):Op.bytesLess b.toList a.toList=true:=by
 unfold sle at h;simp only[Bool.or_eq_false_iff] at h;exact bl_total _ _ h.1 (fun e=>by rw[e] at h;simp at h)
theorem sle_of_lt{a b:ByteArray}(h:Op.bytesLess a.toList b.toList=true):sle a b=true:=by unfold sle;rw[h];rfl
theorem sle_not{a b:ByteArray}(h:Op.bytesLess b.toList a.toList=true):sle a b=false:=by
 unfold sle;have h1:Op.bytesLess a.toList b.toList=false:=by
  cases h2:Op.bytesLess a.toList b.toList
  ·rfl
  ·have:=bl_trans _ _ _ h h2
   rw[bl_irrefl] at this;cases this
 rw[h1];have h3:(a.toList==b.toList)=false:=by
  rw[beq_eq_false_iff_ne];intro e;rw[e,bl_irrefl] at h;cases h
 rw[h3];rfl
theorem sorted_risingA:∀(l:List Rw) (k:Rw),risingA k.1 l=true↔Sorted (k::l)
 | [],k=>by simp[risingA,Sorted]
 |r::rs,k=>by
  have ih:=sorted_risingA rs r;unfold risingA;rw[Bool.and_eq_true,ih];have e:Sorted (k::r::rs)↔(∀x∈r::rs,lt k x)∧Sorted (r::rs):=List.pairwise_cons;rw[e];constructor
  ·rintro⟨h1,h2⟩
   refine⟨fun x hx=>?_,h2⟩;have h3:lt k r:=sle_false (by simpa using h1);rcases List.mem_cons.1 hx with rfl|hx
   ·exact h3
   ·exact bl_trans _ _ _ h3 ((List.pairwise_cons.1 h2).1 x hx)
  ·rintro⟨h1,h2⟩
   refine⟨?_,h2⟩;have:=sle_not (h1 r (List.mem_cons_self));rw[this];rfl
theorem sorted_rising(l:List Rw):risingL l=true↔Sorted l:=by
 cases l with
 |nil=>simp[risingL,Sorted]
 |cons r rs=>exact sorted_risingA rs r
theorem Sorted.at{l:List Rw}(h:Sorted l){i j:Nat}(hij:i<j)(hj:j<l.length):lt (l[i]'(by omega)) l[j]:=List.pairwise_iff_getElem.1 h i j (by omega) hj hij
end Go.Pg
namespace Go.Pg
open Go.Rst Go.Crc
def layF(r:Rw):List Rw→Bool→List Rw
 | [],laid=>if laid then [] else [r]
 |x::xs,laid=>if (x.1.toList==r.1.toList)=true then layF r xs laid else
  if laid=false∧sle x.1 r.1=false then r::x::layF r xs true else x::layF r xs laid
theorem layF_len(r:Rw):∀(l:List Rw) (laid:Bool),(layF r l laid).length≤l.length+1
 | [],laid=>by unfold layF;split <;>simp
 |x::xs,laid=>by
  unfold layF;have h1:=layF_len r xs laid;have h2:(layF r xs true).length≤xs.length:=by
   have:∀(l:List Rw),(layF r l true).length≤l.length:=by
    intro l
    induction l with
    |nil=>simp[layF]
    |cons y ys ih=>
     unfold layF;split
     ·simp only[List.length_cons];omega
     ·simp only[Bool.true_eq_false,false_and,if_false,List.length_cons];omega
   exact this xs
  split
  ·simp only[List.length_cons];omega
  ·split
   ·simp only[List.length_cons];omega
   ·simp only[List.length_cons];omega
theorem layF_mem{r y:Rw}:∀{l:List Rw} {laid:Bool},y∈layF r l laid→y=r∨y∈l
 | [],laid,h=>by
  unfold layF at h;split at h
  ·cases h
  ·left;simpa using h
 |x::xs,laid,h=>by
  unfold layF at h;split at h
  ·rcases layF_mem h with h|h
   ·exact .inl h
   ·exact .inr (List.mem_cons_of_mem _ h)
  ·split at h
   ·rcases List.mem_cons.1 h with h|h
    ·exact .inl h
    ·rcases List.mem_cons.1 h with h|h
     ·exact .inr (by rw[h];exact List.mem_cons_self)
     ·rcases layF_mem h with h|h
      ·exact .inl h
      ·exact .inr (List.mem_cons_of_mem _ h)
   ·rcases List.mem_cons.1 h with h|h
    ·exact .inr (by rw[h];exact List.mem_cons_self)
    ·rcases layF_mem h with h|h
     ·exact .inl h
     ·exact .inr (List.mem_cons_of_mem _ h)
theorem layF_true{r y:Rw}:∀{l:List Rw},y∈layF r l true→y∈l
 | [],h=>by simp[layF] at h
 |x::xs,h=>by
  unfold layF at h;split at h
  ·exact List.mem_cons_of_mem _ (layF_true h)
  ·simp only[Bool.true_eq_false,false_and,if_false] at h
   rcases List.mem_cons.1 h with h|h
   ·rw[h];exact List.mem_cons_self
   ·exact List.mem_cons_of_mem _ (layF_true h)
theorem sorted_cons{x:Rw}{l:List Rw}:Sorted (x::l)↔(∀y∈l,lt x y)∧Sorted l:=List.pairwise_cons
theorem layF_sorted_true{r:Rw}:∀{l:List Rw},Sorted l→Sorted (layF r l true)
 | [],_=>by simp[layF,Sorted]
 |x::xs,h=>by
  obtain⟨h1,h2⟩:=sorted_cons.1 h;unfold layF;split
  ·exact layF_sorted_true h2
  ·simp only[Bool.true_eq_false,false_and,if_false]
   exact sorted_cons.2 ⟨fun y hy=>h1 y (layF_true hy),layF_sorted_true h2⟩
theorem layF_sorted{r:Rw}:∀{l:List Rw},Sorted l→Sorted (layF r l false)
 | [],_=>by simp[layF,Sorted]
 |x::xs,h=>by
  obtain⟨h1,h2⟩:=sorted_cons.1 h;unfold layF;split
  ·exact layF_sorted h2
  ·rename_i hne
   split
   ·rename_i hlt
    have hrx:lt r x:=sle_false hlt.2;refine sorted_cons.2 ⟨fun y hy=>?_,sorted_cons.2 ⟨fun y hy=>h1 y (layF_true hy),layF_sorted_true h2⟩⟩;rcases List.mem_cons.1 hy with rfl|hy
    ·exact hrx
    ·exact bl_trans _ _ _ hrx (h1 y (layF_true hy))
   ·rename_i hle
    refine sorted_cons.2 ⟨fun y hy=>?_,layF_sorted h2⟩;rcases layF_mem hy with rfl|hy
    ·have hs:sle x.1 y.1=true:=by
      cases hh:sle x.1 y.1
      ·exact(hle ⟨rfl,hh⟩).elim
      ·rfl
     unfold sle at hs;rw[Bool.or_eq_true] at hs;rcases hs with hs|hs
     ·exact hs
     ·exact(hne hs).elim
    ·exact h1 y hy
end Go.Pg
namespace Go.Pg
open Go.Rst Go.Crc
theorem ba_loop(bs:ByteArray):∀(n i:Nat) (r:List UInt8),bs.size-i=n→ByteArray.toList.loop bs i r=r.reverse++bs.data.toList.drop i:=by
 intro n
 induction n with
 |zero=>
  intro i r h;unfold ByteArray.toList.loop;have hs:bs.size=bs.data.toList.length:=by rw[Array.length_toList];rfl
  rw[if_neg (by omega),List.drop_eq_nil_of_le (by omega)];simp
 |succ n ih=>
  intro i r h;unfold ByteArray.toList.loop;have hs:bs.size=bs.data.toList.length:=by rw[Array.length_toList];rfl
  have hi:i<bs.data.toList.length:=by omega
  rw[if_pos (by omega),ih (i+1) _ (by omega),List.drop_eq_getElem_cons hi];have hg:bs.get! i=bs.data.toList[i]:=by
   show bs.data[i]! =_;have:i<bs.data.size:=by simpa using hi
   rw[getElem!_pos bs.data i this];simp
  simp[hg]
theorem ba_toList(bs:ByteArray):bs.toList=bs.data.toList:=by
 unfold ByteArray.toList;rw[ba_loop bs _ 0 [] rfl];simp
theorem ba_ext{a b:ByteArray}(h:a.toList=b.toList):a=b:=by
 rw[ba_toList,ba_toList] at h;cases a;cases b
 congr
 simpa using h
theorem bl_asymm{a b:List UInt8}(h:Op.bytesLess a b=true):Op.bytesLess b a=false:=by
 cases h2:Op.bytesLess b a
 ·rfl
 ·have:=bl_trans _ _ _ h h2
  rw[bl_irrefl] at this;cases this
theorem bl_ne{a b:List UInt8}(h:Op.bytesLess a b=true):a≠b:=by
 rintro rfl;rw[bl_irrefl] at h;cases h
def outL(k:ByteArray)(rs:List Rw):List Rw:=rs.filter (fun x=> !(x.1.toList==k.toList))
def stepL(rs:List Rw)(c:Chg):List Rw:=if c.2.2=true then outL c.1 rs else layF (c.1,c.2.1) rs false
def applyL(rs:List Rw)(cs:List Chg):List Rw:=cs.foldl stepL rs
def posL(k:ByteArray):List Rw→Nat
 | []=>0
 |x::xs=>if Op.bytesLess x.1.toList k.toList=true then posL k xs+1 else 0
theorem posL_le(k:ByteArray):∀l:List Rw,posL k l≤l.length
 | []=>Nat.le_refl _
 |x::xs=>by
  have:=posL_le k xs;unfold posL;split <;>simp only[List.length_cons]<;>omega
theorem posL_of{k:ByteArray}:∀{l:List Rw} {i:Nat},i≤l.length→(∀t (h:t<l.length),t<i→Op.bytesLess l[t].1.toList k.toList=true)→(∀h:i<l.length,Op.bytesLess l[i].1.toList k.toList=false)→posL k l=i
 | [],i,hi,_,_=>by simp at hi;subst hi;rfl
 |x::xs,0,_,_,h2=>by
  have:=h2 (by simp);simp only[List.getElem_cons_zero] at this;unfold posL;rw[this];simp
 |x::xs,i+1,hi,h1,h2=>by
  have h0:=h1 0 (by simp) (by omega);simp only[List.getElem_cons_zero] at h0;unfold posL;rw[if_pos h0,posL_of (l:=xs) (i:=i) (by simpa using hi) (fun t h ht=>by have:=h1 (t+1) (by simpa using h) (by omega);simpa using this) (fun h=>by have:=h2 (by simpa using h);simpa using this)]
def hasL(k:ByteArray)(l:List Rw):Bool:=match l[posL k l]? with|some x=>x.1.toList==k.toList|none=>false
theorem layF_same{r:Rw}:∀{l:List Rw},(∀y∈l,(y.1.toList==r.1.toList)=false)→layF r l true=l
 | [],_=>by simp[layF]
 |x::xs,h=>by
  unfold layF;rw[if_neg (by rw[h x List.mem_cons_self];decide),if_neg (by simp),layF_same (fun y hy=>h y (List.mem_cons_of_mem _ hy))]
theorem lt_beq{a b:Rw}(h:lt a b):(b.1.toList==a.1.toList)=false:=by
 rw[beq_eq_false_iff_ne];exact fun e=>bl_ne h e.symm
theorem layF_front{r:Rw}:∀{l:List Rw},(∀y∈l,lt r y)→layF r l false=r::l
 | [],_=>by simp[layF]
 |x::xs,h=>by
  have hx:=h x List.mem_cons_self;unfold layF;rw[if_neg (by rw[lt_beq hx];decide),if_pos ⟨rfl,sle_not hx⟩,layF_same (fun y hy=>lt_beq (h y (List.mem_cons_of_mem _ hy)))]
theorem outL_same{k:ByteArray}{l:List Rw}(h:∀y∈l,(y.1.toList==k.toList)=false):outL k l=l:=by
 unfold outL;rw[List.filter_eq_self.2];intro y hy;rw[h y hy];rfl
theorem outL_cons(k:ByteArray)(x:Rw)(xs:List Rw):outL k (x::xs)=if (x.1.toList==k.toList)=true then outL k xs else x::outL k xs:=by
 unfold outL;rw[List.filter_cons];cases x.1.toList==k.toList <;>rfl
theorem lay_pos{r:Rw}:∀{l:List Rw},Sorted l→layF r l false=if hasL r.1 l=true then l.set (posL r.1 l) r else l.take (posL r.1 l)++r::l.drop (posL r.1 l)
 | [],_=>by simp[layF,hasL,posL]
 |x::xs,h=>by
  obtain⟨h1,h2⟩:=sorted_cons.1 h;by_cases hlt:Op.bytesLess x.1.toList r.1.toList=true
  ·have hp:posL r.1 (x::xs)=posL r.1 xs+1:=by rw[posL,if_pos hlt]
   have hh:hasL r.1 (x::xs)=hasL r.1 xs:=by unfold hasL;rw[hp];simp
   have hne:(x.1.toList==r.1.toList)=false:=by rw[beq_eq_false_iff_ne];exact bl_ne hlt
   rw[hp,hh,layF,if_neg (by rw[hne];decide),if_neg (by rintro⟨_,hs⟩;rw[sle_of_lt hlt] at hs;cases hs),lay_pos h2];split <;>simp
  ·have hlt':Op.bytesLess x.1.toList r.1.toList=false:=by simpa using hlt
   have hp:posL r.1 (x::xs)=0:=by rw[posL,if_neg hlt]
   by_cases he:x.1.toList=r.1.toList
   ·have hh:hasL r.1 (x::xs)=true:=by unfold hasL;rw[hp];simp[he]
    rw[hp,hh,if_pos rfl,layF,if_pos (by simp[he]),layF_front (fun y hy=>by have:=h1 y hy;unfold lt kl at this⊢;rw[←he];exact this)];rfl
   ·have hrx:lt r x:=bl_total _ _ hlt' he
    have hh:hasL r.1 (x::xs)=false:=by unfold hasL;rw[hp];simp[he]
    rw[hp,hh,if_neg (by decide),layF_front (l:=x::xs) (fun y hy=>by
     rcases List.mem_cons.1 hy with rfl|hy
     ·exact hrx
     ·exact bl_trans _ _ _ hrx (h1 y hy))]
    simp
theorem out_pos{k:ByteArray}:∀{l:List Rw},Sorted l→outL k l=if hasL k l=true then l.take (posL k l)++l.drop (posL k l+1) else l
 | [],_=>by simp[outL]
 |x::xs,h=>by
  obtain⟨h1,h2⟩:=sorted_cons.1 h;by_cases hlt:Op.bytesLess x.1.toList k.toList=true
  ·have hp:posL k (x::xs)=posL k xs+1:=by rw[posL,if_pos hlt]
   have hh:hasL k (x::xs)=hasL k xs:=by unfold hasL;rw[hp];simp
   have hne:(x.1.toList==k.toList)=false:=by rw[beq_eq_false_iff_ne];exact bl_ne hlt
   rw[hp,hh,outL_cons,if_neg (by rw[hne];decide),out_pos h2];split <;>simp
  ·have hlt':Op.bytesLess x.1.toList k.toList=false:=by simpa using hlt
   have hp:posL k (x::xs)=0:=by rw[posL,if_neg hlt]
   by_cases he:x.1.toList=k.toList
   ·have hh:hasL k (x::xs)=true:=by unfold hasL;rw[hp];simp[he]
    rw[hp,hh,if_pos rfl,outL_cons,if_pos (by simp[he]),outL_same (fun y hy=>by have:=h1 y hy;unfold lt kl at this;rw[beq_eq_false_iff_ne];rw[←he];exact(bl_ne this).symm)];simp
   ·have hh:hasL k (x::xs)=false:=by unfold hasL;rw[hp];simp[he]
    rw[hh,if_neg (by decide)];have hrx:Op.bytesLess k.toList x.1.toList=true:=bl_total _ _ hlt' he;exact outL_same (fun y hy=>by
     rw[beq_eq_false_iff_ne];rcases List.mem_cons.1 hy with rfl|hy
     ·exact he
     ·exact(bl_ne (bl_trans _ _ _ hrx (h1 y hy))).symm)
theorem outL_sorted{k:ByteArray}{l:List Rw}(h:Sorted l):Sorted (outL k l):=List.Pairwise.filter _ h
theorem stepL_sorted{l:List Rw}{c:Chg}(h:Sorted l):Sorted (stepL l c):=by
 unfold stepL;split
 ·exact outL_sorted h
 ·exact layF_sorted h
theorem applyL_sorted:∀{cs:List Chg} {l:List Rw},Sorted l→Sorted (applyL l cs)
 | [],_,h=>h
 |c::cs,_,h=>applyL_sorted (cs:=cs) (stepL_sorted (c:=c) h)
theorem stepL_len(l:List Rw)(c:Chg):(stepL l c).length≤l.length+1:=by
 unfold stepL;split
 ·exact Nat.le_trans (List.length_filter_le _ _) (Nat.le_succ _)
 ·exact layF_len _ _ _
theorem applyL_snoc(l:List Rw)(cs:List Chg)(c:Chg):applyL l (cs++ [c])=stepL (applyL l cs) c:=by unfold applyL;rw[List.foldl_append];rfl
theorem applyL_take{l:List Rw}{cs:List Chg}{k:Nat}(h:k<cs.length):applyL l (cs.take (k+1))=stepL (applyL l (cs.take k)) cs[k]:=by
 rw[List.take_succ_eq_append_getElem h,applyL_snoc]
theorem applyL_len(l:List Rw):∀(cs:List Chg),(applyL l cs).length≤l.length+cs.length:=by
 intro cs
 induction cs generalizing l with
 |nil=>exact Nat.le_refl _
 |cons c cs ih=>
  have h1:=ih (stepL l c);have h2:=stepL_len l c;show(applyL (stepL l c) cs).length≤_;rw[List.length_cons];omega
theorem applyL_append(l:List Rw)(a b:List Chg):applyL l (a++b)=applyL (applyL l a) b:=by unfold applyL;rw[List.foldl_append]
def cl(c d:Chg):Prop:=Op.bytesLess c.1.toList d.1.toList=true
end Go.Pg
