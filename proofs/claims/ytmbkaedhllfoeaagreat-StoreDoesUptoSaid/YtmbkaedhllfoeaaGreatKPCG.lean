/-
  Texts of the proof, put together.
-/
import Derived.Test.YtmbkaedhllfoeaaGreatKPCC
import Derived.Test.YtmbkaedhllfoeaaGreatKPCF
import Derived.Test.YtmbkaedhllfoeaaGreatKPWr
set_option maxRecDepth 100000
set_option maxHeartbeats 4000000
set_option linter.unusedVariables false
namespace Go.Proofs.YtmbkaedhllfoeaaGreat
open Go.RowKit Go.Rst Go.Dv Go.Str
def PN(w:World)(base:Nat)(v:Value)(ps:List (List UInt8)):Prop:=
 ∃A c,v= .slice A ps.length c∧ps.length≤c∧c≤maxLen∧(ps= []∨∃b off,A=some ⟨b,off,none⟩∧base≤b∧b<w.heap.size∧∀j (h:j<ps.length),∃u,w.cell? ⟨b,off+j,none⟩=some u∧RB w u ps[j]∧(ps[j]≠ []→∀q,u.ownBlock=some q→base≤q∧q<w.heap.size))
theorem PN.rp{w:World}{base:Nat}{v:Value}{ps:List (List UInt8)}(h:PN w base v ps):RP w v ps:=by
 obtain⟨A,c,rfl,h1,h2,h3⟩:=h;refine⟨A,c,rfl,h1,h2,h3.imp id fun⟨b,off,e,_,hb,hc⟩=>⟨b,off,e,hb,fun j hj=>?_⟩⟩;obtain⟨u,a1,a2,_⟩:=hc j hj;exact⟨u,a1,a2⟩
theorem PN.fr{D:Nat→Prop}{w w':World}{base:Nat}{v:Value}{ps:List (List UInt8)}(h:PN w base v ps)(hf:Fr D w w')(hD:∀k,D k→k<base):PN w' base v ps:=by
 obtain⟨A,c,rfl,h1,h2,h3⟩:=h;refine⟨A,c,rfl,h1,h2,h3.imp id fun⟨b,off,e,hb0,hb,hc⟩=>⟨b,off,e,hb0,Nat.lt_of_lt_of_le hb hf.size,fun j hj=>?_⟩⟩;obtain⟨u,a1,a2,a3⟩:=hc j hj;have e1:=hf.block b hb (fun hd=>by have:=hD b hd;omega);refine⟨u,(World.cell?_of_block (a:=⟨b,off+j,none⟩) e1).trans a1,RB.fr a2 hf (fun hl q hq hd=>by have:=hD q hd;have:=(a3 hl q hq).1;omega),fun hl q hq=>⟨(a3 hl q hq).1,Nat.lt_of_lt_of_le (a3 hl q hq).2 hf.size⟩⟩
theorem PN.below{w w':World}{base:Nat}{v:Value}{ps:List (List UInt8)}(h:PN w base v ps)(hb:Below w.heap.size w w'):PN w' base v ps:=
 h.fr (D:=fun _=>False) ⟨hb.os,hb.tape,hb.output,hb.size,fun k hk _=>hb.block k hk⟩ (fun _ h=>h.elim)
theorem PN.base_{w:World}{base base':Nat}{v:Value}{ps:List (List UInt8)}(h:PN w base v ps)(hb:base'≤base):PN w base' v ps:=by
 obtain⟨A,c,rfl,h1,h2,h3⟩:=h;refine⟨A,c,rfl,h1,h2,h3.imp id fun⟨b,off,e,hb0,hb1,hc⟩=>⟨b,off,e,by omega,hb1,fun j hj=>?_⟩⟩;obtain⟨u,a1,a2,a3⟩:=hc j hj;exact⟨u,a1,a2,fun hl q hq=>by have:=a3 hl q hq;omega⟩
theorem pn_nil(w:World)(base:Nat):PN w base (.slice none 0 0) []:=⟨none,0,rfl,Nat.le_refl _,Nat.zero_le _,.inl rfl⟩
theorem pn_at{w:World}{base:Nat}{A:Option Addr}{n c:Nat}{ps:List (List UInt8)}(h:PN w base (.slice A n c) ps){k:Nat}(hk:k<ps.length):
  ∃b off u,A=some ⟨b,off,none⟩∧w.cell? ⟨b,off+k,none⟩=some u∧RB w u ps[k]∧(ps[k]≠ []→∀q,u.ownBlock=some q→base≤q∧q<w.heap.size):=by
 obtain⟨A',c',he,_,_,h3⟩:=h;injection he with e1 _ _;subst e1;rcases h3 with rfl|⟨b,off,rfl,_,hb,hc⟩
 ·simp at hk
 ·obtain⟨u,h1,h2,h3⟩:=hc k hk
  exact⟨b,off,u,rfl,h1,h2,h3⟩
theorem OP.pn{e eP:TypeId}{w:World}{base:Nat}{v:Value}{ps:List (List UInt8)}(h:OP e eP w base v ps):PN w base v ps:=by
 obtain⟨us,rfl,ho,hf⟩:=h;rcases ho.2 with ⟨rfl,h0⟩|⟨g,cap,cur,rfl,hb,hg,hnc,hcm,hcs,ht⟩
 ·have:us= []:=List.eq_nil_of_length_eq_zero h0
  subst this;exact pn_nil w base
 ·refine⟨some ⟨g,0,none⟩,cap,by rw[List.length_map],by rw[List.length_map];exact hnc,hcm,.inr ⟨g,0,rfl,hb,(Array.getElem?_eq_some_iff.1 hg).1,fun j hj=>?_⟩⟩
  rw[List.length_map] at hj;have hc:=ho.cells (g:=g) rfl j us[j].2 (by simp[hj]);rw[Addr.add_lit] at hc;have bB:=hf us[j] (List.getElem_mem hj);refine⟨us[j].2,hc,by simpa using bB.rb,fun _ q hq=>?_⟩;rcases bB with ⟨h1,_⟩|⟨g',c',cur',fr',h1,h2,h3,_⟩
  ·rw[h1] at hq;simp[Value.ownBlock] at hq
  ·rw[h1] at hq
   simp[Value.ownBlock] at hq;subst hq;exact⟨h2,(Array.getElem?_eq_some_iff.1 h3).1⟩
def writeL(s:Sim)(at_:Nat):List (List UInt8)→Nat→Sim
 |_,0=>s
 |ps,k+1=>(writeL s at_ ps k).write ((at_+k:Nat):Int) (ps.getD k [])
theorem write_loose(s:Sim)(i:Int)(b:List UInt8):(s.write i b).loose.length≤s.loose.length+1:=by
 unfold Sim.write;split
 ·simp[Sim.put]
 ·omega
theorem writeL_loose(s:Sim)(at_:Nat)(ps:List (List UInt8)):∀k,(writeL s at_ ps k).loose.length≤s.loose.length+k
 |0=>Nat.le_refl _
 |k+1=>by
  have:=writeL_loose s at_ ps k;have:=write_loose (writeL s at_ ps k) ((at_+k:Nat):Int) (ps.getD k []);show((writeL s at_ ps k).write _ _).loose.length≤_;omega
theorem write_firm(s:Sim)(i:Int)(b:List UInt8):(s.write i b).firm=s.firm:=by
 unfold Sim.write;split
 ·rfl
 ·rfl
theorem writeL_firm(s:Sim)(at_:Nat)(ps:List (List UInt8)):∀k,(writeL s at_ ps k).firm=s.firm
 |0=>rfl
 |k+1=>(write_firm _ _ _).trans (writeL_firm s at_ ps k)
theorem dev_ptr{D:Nat→Prop}{w:World}{v:Value}{s:Sim}(h:Dev D w v s):∃g,v= .pointer (some ⟨g,0,none⟩):=by
 obtain⟨y,h1,_⟩:=h;exact⟨y.g,h1⟩
theorem wr_any{D:Nat→Prop}{w:World}{v:Value}{s:Sim}(at_:Nat)(pv:Value)(ps:List (List UInt8))(base:Nat)(h:Dev D w v s)(hD:∀k,D k→k<base)(hb:base≤w.heap.size)(hp:PN w base pv ps)(hl:s.loose.length+ps.length<100000)(ha:at_≤100000):
  Calls Tryz.prog 39 #[dv v,.int .i64 (at_:Int),pv] w fun e w'=>e= .returned (.tuple #[])∧Did D w v (writeL s at_ ps ps.length) w':=by
 have H:=qH h;have HP:=qH hp;have HD:=qH hD;have HB:=qH hb;obtain⟨g,rfl⟩:=dev_ptr h;obtain⟨A,c,rfl,hc1,hc2,_⟩:=hp;unfold maxLen at hc2;have hlt:=h.lt;have jO:=qH hlt;clear h hD hb hlt;go_enter Tryz.func39,Tryz.ntmps39;go_wp2
 go_loopw [10] (fun i wr=>∃k:Nat,k≤ps.length∧i= .int .i64 k∧Did D w (.pointer (some ⟨g,0,none⟩)) (writeL s at_ ps k) wr) (fun i _=>ps.length-(intOf i).toNat)
 case atStart=>exact⟨0,Nat.zero_le _,rfl,Did.same H.out (Fr.refl _ _)⟩
 case round=>
  obtain⟨k,hk,rfl,nE⟩:=hrel;have y8:=qH nE;clear nE;by_cases hlt:k<ps.length
  ·obtain⟨E,hE,hF,Eq⟩:=y8.out
   obtain⟨b,off,u,rfl,hu,bi,hq⟩:=pn_at (HP.out.fr hF HD.out) hlt;have hgd:ps.getD k []=ps[k]:=by rw[List.getD_eq_getElem?_getD,List.getElem?_eq_getElem hlt];rfl
   have hcall:=write_any ((at_+k:Nat):Int) u (ps.getD k []) hE (by rw[hgd];exact bi) (fun hne q zV hd=>by
    rw[hgd] at hne;have h1:=hq hne q zV;have hx:=HP.out;obtain⟨b',off',u',e',hu',_,hq'⟩:=pn_at hx hlt;injection e' with e';injection e' with e1 e2;subst e1;subst e2;have AP:u'=u:=by
     have hbb:b<w.heap.size:=by
      obtain⟨A2,c2,gl,_,_,lD⟩:=hx;rcases lD with lD|⟨b2,o2,he3,_,hb2,_⟩
      ·rw[lD] at hlt;simp at hlt
      ·injection gl with gl _ _;rw[←gl] at he3;injection he3 with he3;injection he3 with he3 _;omega
     have e9:=hF.block b hbb (fun hd9=>by
      have:=HD.out b hd9;obtain⟨A2,c2,gl,_,_,lD⟩:=hx;rcases lD with lD|⟨b2,o2,he3,hb3,hb2,_⟩
      ·rw[lD] at hlt;simp at hlt
      ·injection gl with gl _ _;rw[←gl] at he3;injection he3 with he3;injection he3 with he3 _;omega)
     have:=(World.cell?_of_block (a:=⟨b,off+k,none⟩) e9).symm.trans hu;rw[hu'] at this;injection this
    subst AP;have h2:=hq' hne q zV;rcases Eq q hd with h3|h3
    ·have:=HD.out q h3;omega
    ·omega) (by have:=writeL_loose s at_ ps k;omega)
   have fm:=qH hcall;have HF:=qH hF;have GX:=qH Eq;clear hcall hq bi hE hF Eq hgd;go_wp2_with fail
   go_at_call 188;refine fm.out.mono ?_;rintro e w1⟨rfl,E1,oJ,tJ,vX⟩;have JI:=qH (show Did D w (.pointer (some ⟨g,0,none⟩)) (writeL s at_ ps (k+1)) w1 from⟨E1,oJ,HF.out.trans tJ GX.out,fun q hq=>by
    rcases vX q hq with h1|h1
    ·exact GX.out q h1
    ·exact .inr (Nat.le_trans HF.out.size h1)⟩)
   clear oJ tJ vX;go_wp2;go_roundw
   case rel=>exact⟨k+1,by omega,by go_num,JI.out⟩
   case measure=>simp[intOf];omega
  ·have hkk:k=ps.length:=by omega
   subst hkk;go_wp2;refine bodyPost_end (results_none rfl _ _ _) rfl ?_;exact⟨rfl,y8.out⟩
def secsL(s:Sim)(at_ n:Nat):List (List UInt8):=(List.range n).map fun i=>s.read (at_+i)
theorem secsL_succ(s:Sim)(at_ n:Nat):secsL s at_ (n+1)=secsL s at_ n++ [s.read (at_+n)]:=by
 unfold secsL;rw[List.range_succ,List.map_append];rfl
theorem secsL_len(s:Sim)(at_ n:Nat):(secsL s at_ n).length=n:=by simp[secsL]
theorem rd_any{D:Nat→Prop}{w:World}{v:Value}{s:Sim}(at_ n:Nat)(h:Dev D w v s)(hr:at_+n≤s.firm.length):
  Calls Tryz.prog 49 #[dv v,.int .i64 (at_:Int),.int .i64 (n:Int)] w fun e w'=>∃pv,e= .returned pv∧OP 121 46 w' w.heap.size pv (secsL s at_ n)∧Below w.heap.size w w':=by
 have H:=qH h;have HR:=qH hr;have HN:=h.ok.n;obtain⟨g,rfl⟩:=dev_ptr h;have hat:at_≤4096:=by omega
 have di:n≤4096:=by omega
 clear h hr HN;go_enter Tryz.func49,Tryz.ntmps49;go_wp2
 go_loopw [7,12] (fun lv i wr=>∃k:Nat,k≤n∧i= .int .i64 k∧OP 121 46 wr w.heap.size lv (secsL s at_ k)∧Below w.heap.size w wr) (fun _ i _=>n-(intOf i).toNat)
 case atStart=>exact⟨0,Nat.zero_le _,rfl,OP.nil_ _ _ _ _,Below.refl _ _⟩
 case round=>
  obtain⟨k,hk,rfl,hop,ad⟩:=hrel;have b8:=qH hop;have aG:=qH ad;obtain⟨A,c,rfl,_,_⟩:=hop.shape;clear hop ad;by_cases hlt:k<n
  ·have hcall:=read_any (at_+k) (H.out.below aG.out) (by have:=HR.out;omega)
   rw[show((at_+k:Nat):Int)=(at_:Int)+(k:Int) by omega] at hcall;have HC:=qH hcall;clear hcall;go_wp2_with fail
   go_at_call 187;refine HC.out.mono ?_;rintro e w1⟨u,rfl,_,bB,_,hb1⟩;have b7:=qH (aG.out.trans (hb1.mono aG.out.size));have hu1:=fb_one bB;obtain⟨Au,cu,rfl⟩:=bB.shape;have ap:=(Below.refl w1.heap.size w1).alloc (Nat.le_refl _) (Obj.cells #[.slice Au (s.read (at_+k)).length cu] 46);have dh:=qH (b7.out.trans (ap.mono b7.out.size));have fi:=qH ((bB.base_ aG.out.size).below (ap.mono (Nat.le_refl _)));obtain⟨us,ah,ho,hf⟩:=b8.out.below (hb1.trans (ap.mono hb1.size));have bt:=qH (show us.length=k by have h:=congrArg List.length ah;rw[List.length_map,secsL_len] at h;exact h);rw[secsL_len];rw[bt.out,secsL_len] at ho;have HO:=qH ho;have HF:=qH hf;have ce:=qH ah;have i7:=qH (src_one w1 Tryz.underlying26 46 (.slice Au (s.read (at_+k)).length cu) hu1);clear ho hf ah bB hb1 ap;go_wp2_with (at_builtin;refine wpList_own rfl (.tmp 23) (.tmp 25) 26 26 rfl w.heap.size 46 (.slice none 0 0) 1 24 Tryz.underlying26 info46 rfl rfl HO.out rfl i7.out dh.out (Nat.le_refl _) ?_ ?_ ?_ ?_)
   ·unfold maxLen;omega
   ·omega
   ·exact dh.out.size
   intro v5 w5 aI au hg5;have hrf:=OP.push (e:=121) (eP:=46) (by decide) (by rw[bt.out];exact HO.out) HF.out fi.out (by rw[bt.out];exact aI) hg5;rw[ce.out,←secsL_succ] at hrf;have gi:=qH hrf;have ax:=qH au;clear aI hg5 hrf au;go_wp2;go_roundw
   case rel=>exact⟨k+1,by omega,by go_num,gi.out,ax.out⟩
   case measure=>simp[intOf];omega
  ·have hkk:k=n:=by omega
   subst hkk;go_wp2;go_ret;exact⟨_,rfl,b8.out,aG.out⟩
open Go.RowKit Go.Rst Go.Dv
theorem TRd.six_{A:Nat→Prop}{w:World}{tv:Value}{s:Sim}(h:TRd A w tv s):∃aS cS aL cL cw cf f lf,tv= .agg #[.slice aS s.firm.length cS,.slice aL s.loose.length cL,.int .i64 cw,.int .i64 cf,.bool f,.int .i64 lf]:=by
 obtain⟨vS,vL,lf,cw,cf,rfl,hS,hL,_⟩:=h;obtain⟨aS,cS,rfl,_⟩:=hS.shape;obtain⟨aL,cL,rfl,_⟩:=hL.shape;exact⟨_,_,_,_,_,_,_,_,rfl⟩
theorem rad_old{A:Nat→Prop}{n:Nat}{W wr:World}{u:Value}{l:List UInt8}(h:RAd (fun k=>A k∨n≤k) wr u l)(hb:Below n W wr)(hn:n≤W.heap.size):RB W u l:=by
 obtain⟨⟨a,c,rfl,h1,h2,h3⟩,h4⟩:=h;refine⟨a,c,rfl,h1,h2,?_⟩;rcases h3 with h3|⟨b,off,rfl,hb0,hc⟩
 ·exact .inl h3
 by_cases hl:l= []
 ·exact .inl hl
 have qB:b<n:=by
  have:=h4 hl b (by simp[Value.ownBlock]);exact Nat.lt_of_not_le fun hh=>this (.inr hh)
 exact .inr ⟨b,off,rfl,Nat.lt_of_lt_of_le qB hn,fun j hj=>(hb.cell (p:=⟨b,off+j,none⟩) qB).symm.trans (hc j hj)⟩
def OV(W0 w:World)(base:Nat)(v:Value)(ps:List (List UInt8)):Prop:=
 ∃us:List (List UInt8×Value),us.map (·.1)=ps∧w.ownsRow base 46 1 v us.length (us.map (·.2))∧∀x∈us,RB W0 x.2 x.1
theorem OV.nil_(W0 w:World)(base:Nat):OV W0 w base (.slice none 0 0) []:=⟨[],rfl,World.ownsRow_nil _ _ _ _,fun _ h=>by cases h⟩
theorem OV.rp{W0 w:World}{base:Nat}{v:Value}{ps:List (List UInt8)}(h:OV W0 w base v ps)(hb:Below W0.heap.size W0 w):RP w v ps:=by
 obtain⟨us,rfl,ho,hf⟩:=h;rcases ho.2 with ⟨rfl,h0⟩|⟨g,cap,cur,rfl,hbg,hg,hnc,hcm,hcs,ht⟩
 ·have:us= []:=List.eq_nil_of_length_eq_zero h0
  subst this;exact rp_nil w
 ·refine⟨some ⟨g,0,none⟩,cap,by rw[List.length_map],by rw[List.length_map];exact hnc,hcm,.inr ⟨g,0,rfl,(Array.getElem?_eq_some_iff.1 hg).1,fun j hj=>?_⟩⟩
  rw[List.length_map] at hj;have hc:=ho.cells (g:=g) rfl j us[j].2 (by simp[hj]);rw[Addr.add_lit] at hc;refine⟨us[j].2,hc,?_⟩;have:=(hf us[j] (List.getElem_mem hj)).below hb
  simpa using this
theorem OV.shape{W0 w:World}{base:Nat}{v:Value}{ps:List (List UInt8)}(h:OV W0 w base v ps):∃A c,v= .slice A ps.length c:=by
 obtain⟨us,rfl,ho,_⟩:=h;rcases ho.2 with ⟨rfl,h0⟩|⟨g,cap,cur,rfl,_⟩
 ·have:us= []:=List.eq_nil_of_length_eq_zero h0
  subst this;exact⟨none,0,rfl⟩
 ·exact⟨_,_,by rw[List.length_map]⟩
theorem secs8_any{A:Nat→Prop}{w:World}{tv:Value}{s:Sim}(at_ n:Nat)(h:TRd A w tv s)(hok:OK s)(hr:at_+n≤s.firm.length):
  Calls Tryz.prog 56 #[tv,.int .i64 (at_:Int),.int .i64 (n:Int)] w fun e w'=>∃pv,e= .returned pv∧RP w' pv (secsL s at_ n)∧Below w.heap.size w w':=by
 obtain⟨aS,cS,aL,cL,cw,cf,f,lf,rfl⟩:=h.six_;have hN:=hok.n;obtain⟨W1,hW1⟩:∃W1,W1=(w.alloc (Obj.cells #[.slice aS s.firm.length cS,.slice aL s.loose.length cL,.int .i64 cw,.int .i64 cf,.bool f,.int .i64 lf] 29)):=⟨_,rfl⟩
 have aj:Below w.heap.size w W1:=by rw[hW1];exact(Below.refl _ _).alloc (Nat.le_refl _) _
 have hk1:Dv.Blk W1 w.heap.size 29 #[.slice aS s.firm.length cS,.slice aL s.loose.length cL,.int .i64 cw,.int .i64 cf,.bool f,.int .i64 lf]:=by rw[hW1];exact heap_alloc_new w _
 have fk:=fun(wr:World) (hb:Below W1.heap.size W1 wr) (k:Nat) (hk:k<s.firm.length)=>refread_any (A:=fun k=>A k∨W1.heap.size≤k) (w:=wr) k ((h.below aj).fr (D:=fun _=>False) (Fr.of_below hb) (fun _ h=>h.elim) (fun _ h=>h)) hk hok.w hN
 have dB:=qH fk;have aD:=qH hk1;have aw:=qH aj;have dU:=qH hW1;have HR:=qH hr;have hat:at_≤4096:=by omega
 have di:n≤4096:=by omega
 clear h hok fk hk1 aj hW1 hr hN;go_enter Tryz.func56,Tryz.ntmps56;go_wp2;rw[←dU.out]
 go_loopw [7,8] (fun lv i wr=>∃k:Nat,k≤n∧i= .int .i64 k∧OV W1 wr W1.heap.size lv (secsL s at_ k)∧Below W1.heap.size W1 wr) (fun _ i _=>n-(intOf i).toNat)
 case atStart=>exact⟨0,Nat.zero_le _,rfl,OV.nil_ _ _ _,Below.refl _ _⟩
 case round=>
  obtain⟨k,hk,rfl,hop,ad⟩:=hrel;obtain⟨A0,c0,rfl⟩:=hop.shape;have b8:=qH hop;have aG:=qH ad;clear hop ad;by_cases hlt:k<n
  ·have hcall:=dB.out wr aG.out (at_+k) (by have:=HR.out;omega)
   rw[show((at_+k:Nat):Int)=(at_:Int)+(k:Int) by omega] at hcall;have HC:=qH hcall;have hkb:=aD.out.below aG.out aD.out.lt;obtain⟨z0,z1,z2,z3,z4,z5⟩:=cl6 hkb;clear hcall hkb;go_wp2_with fail
   go_at_call 100;refine HC.out.mono ?_;rintro e w1⟨u,rfl,yf,hb1⟩;have aJ:=aG.out.trans (hb1.mono aG.out.size);have bi:RB W1 u (s.read (at_+k)):=rad_old yf aG.out (Nat.le_refl _);obtain⟨Au,cu,ah⟩:=rb_shape bi;subst ah;have vF:=qH bi;have an:=qH aJ;have ap:=(Below.refl w1.heap.size w1).alloc (Nat.le_refl _) (Obj.cells #[.slice Au (s.read (at_+k)).length cu] 46);have dh:=qH (aJ.trans (ap.mono aJ.size));obtain⟨us,ah,ho0,hf⟩:=b8.out;have ho:=own_below ho0 (hb1.trans (ap.mono hb1.size));have bt:=qH (show us.length=k by have h:=congrArg List.length ah;rw[List.length_map,secsL_len] at h;exact h);rw[secsL_len];rw[bt.out,secsL_len] at ho;have HO:=qH ho;have HF:=qH hf;have ce:=qH ah;have i7:=qH (src_one w1 Tryz.underlying26 46 (.slice Au (s.read (at_+k)).length cu) rfl);clear ho hf ah bi yf hb1 ap ho0 aJ z0 z1 z2 z3 z4 z5;go_wp2_with (at_builtin;refine wpList_own rfl (.tmp 24) (.tmp 26) 26 26 rfl W1.heap.size 46 (.slice none 0 0) 1 24 Tryz.underlying26 info46 rfl rfl HO.out rfl i7.out dh.out (Nat.le_refl _) ?_ ?_ ?_ ?_)
   ·unfold maxLen;omega
   ·omega
   ·exact dh.out.size
   intro v5 w5 aI au hg5;have hrf:OV W1 w5 W1.heap.size v5 (secsL s at_ (k+1)):=by
    rw[secsL_succ,←ce.out];refine⟨us++ [(s.read (at_+k),.slice Au (s.read (at_+k)).length cu)],by simp,?_,fun x hx=>?_⟩
    ·rw[List.length_append,List.map_append,bt.out]
     exact aI
    ·rcases List.mem_append.1 hx with hx|hx
     ·exact HF.out x hx
     ·simp only[List.mem_singleton] at hx
      subst hx;exact vF.out
   have gi:=qH hrf;have ax:=qH au;clear aI hg5 hrf au;go_wp2;go_roundw
   case rel=>exact⟨k+1,by omega,by go_num,gi.out,ax.out⟩
   case measure=>simp[intOf];omega
  ·have hkk:k=n:=by omega
   subst hkk;go_wp2;go_ret;exact⟨_,rfl,b8.out.rp aG.out,aw.out.trans (aG.out.mono aw.out.size)⟩
end Go.Proofs.YtmbkaedhllfoeaaGreat
