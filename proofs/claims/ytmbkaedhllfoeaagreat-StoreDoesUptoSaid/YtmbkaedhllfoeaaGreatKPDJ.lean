/-
  Texts of the proof, put together.
-/
import Derived.RangeFuncBox
import Derived.Deep.QuietTactic
import Derived.BigQuiet
import Derived.Test.YtmbkaedhllfoeaaGreatKPG
import Derived.Test.YtmbkaedhllfoeaaGreatKPCE
import Derived.Test.YtmbkaedhllfoeaaGreatKPWr
set_option maxRecDepth 100000
set_option maxHeartbeats 4000000
set_option linter.unusedVariables false
namespace Go.Pg
theorem layF_go{r:Rw}{rs:List Rw}{k:Nat}{laid:Bool}(h:k<rs.length):layF r (rs.drop k) laid=if (rs[k].1.toList==r.1.toList)=true then layF r (rs.drop (k+1)) laid else
  if laid=false∧sle rs[k].1 r.1=false then r::rs[k]::layF r (rs.drop (k+1)) true else rs[k]::layF r (rs.drop (k+1)) laid:=by
 rw[List.drop_eq_getElem_cons h,layF]
end Go.Pg
namespace Go.Proofs.YtmbkaedhllfoeaaGreat
open Go.RowKit Go.Rst Go.Pg Go.Crc
theorem putP_any{P:Value→List UInt8→Prop}{A:Nat→Prop}(v:Value)(rs:List Rw)(key:ByteArray)(u:Value)(val:List UInt8)(w:World)(hP:∀u l,P u l→∃A c,u= .slice A l.length c)(hA:∀k,A k→k<w.heap.size)(ho:RVP P A w v rs)(hu:P u val)(hlen:rs.length≤3000000000001):
  Calls Tryz.prog 102 #[v,.agg #[.string key,u]] w fun e w'=>∃v',e= .returned v'∧RVP P A w' v' (layF (key,val) rs false)∧Below w.heap.size w w':=by
 have HP:=qH hP;have HA:=qH hA;obtain⟨A1,cu,ah⟩:=hP _ _ hu;clear hP hA;obtain⟨nu,nl⟩:∃nu,nu=val.length:=⟨_,rfl⟩
 rw[←nl] at ah;subst ah;obtain⟨Al,cl,rfl,_,_⟩:=ho.shape;have b1:Below w.heap.size w (w.alloc (.cells #[.string key,.slice A1 nu cu] 78)):=(Below.refl _ _).alloc (Nat.le_refl _) _;have hbc:∀i,(w.alloc (.cells #[.string key,.slice A1 nu cu] 78)).cell? ⟨w.heap.size,i,none⟩=(#[.string key,.slice A1 nu cu]:Array Value)[i]? :=fun i=>cell_of_row _ _ i _ 78 (0,0) (World.alloc_heap_new w _)
 have hb0:=hbc 0;have hb1:=hbc 1;simp only[List.getElem?_toArray,List.getElem?_cons_zero,List.getElem?_cons_succ] at hb0 hb1;have iO:=qH (ho.below b1 (Nat.le_refl _));have zW:=qH hu;have hsz1:(w.alloc (.cells #[.string key,.slice A1 nu cu] 78)).heap.size=w.heap.size+1:=World.size_alloc _ _;have an:=qH b1;clear ho hu nl hbc b1;go_enter Tryz.func102,Tryz.ntmps102;go_wp2;obtain⟨W1,hW1⟩:∃W1,W1=(w.alloc (.cells #[.string key,.slice A1 nu cu] 78)):=⟨_,rfl⟩
 rw[←hW1] at iO an hb0 hb1 hsz1⊢;clear hW1
 go_loopw [5,6,7] (fun ov ld i wr=>∃(k:Nat) (laid:Bool) (us:List (ByteArray×List UInt8×Value)),k≤rs.length∧i= .int .i64 k∧ld= .bool laid∧wr.ownsRow (w.heap.size+1) 78 2 ov us.length (rowCells us)∧(∀x∈us,P x.2.2 x.2.1)∧
   us.map (fun x=>(x.1,x.2.1))++layF (key,val) (rs.drop k) laid=layF (key,val) rs false∧us.length≤2*k∧Below (w.heap.size+1) W1 wr) (fun _ _ i _=>rs.length-(intOf i).toNat)
 case atStart=>exact⟨0,false,[],Nat.zero_le _,rfl,rfl,World.ownsRow_nil _ _ _ _,fun _ h=>(by cases h),rfl,by simp,Below.refl _ _⟩
 case round=>
  obtain⟨k,laid,us,hk,rfl,rfl,hown,bC,hmp,Hf,ad⟩:=hrel;have eY:us.length≤rs.length+1:=by
   have h:=congrArg List.length hmp;have h2:=layF_len (key,val) rs false;rw[List.length_append,List.length_map] at h;omega
  obtain⟨Ao,co,rfl,_⟩:=own_shape hown;have qk:=ad.size;by_cases hlt:k<rs.length
  ·obtain⟨g,off,ux,rfl,vz,dt,hk1,bB⟩:=rvp_at iO.out hlt
   rw[hsz1] at vz;have hgl:=vz;rw[layF_go hlt] at hmp;obtain⟨A2,c2,ti⟩:=HP.out _ _ bB;obtain⟨kk,hkk⟩:∃x,x=rs[k].1:=⟨_,rfl⟩
   obtain⟨vv,hvv⟩:∃x,x=rs[k].2:=⟨_,rfl⟩
   have qJ:rs[k]=(kk,vv):=by rw[hkk,hvv]
   rw[←hkk] at dt;rw[←hvv] at ti bB;rw[qJ] at hmp;simp only[] at hmp;obtain⟨nx,hnx⟩:∃nx,nx=vv.length:=⟨_,rfl⟩
   rw[←hnx] at ti;subst ti;have HO:=qH hown;have ga:=qH bC;have vx:=qH bB;have HB:=qH ad;have hx:=(ad.cell (p:=⟨g,off+k*2,none⟩) hgl).trans dt;have hy:=(ad.cell (p:=⟨g,off+k*2+1,none⟩) hgl).trans hk1;have hr:=(ad.cell (p:=⟨w.heap.size,0,none⟩) (Nat.lt_succ_self _)).trans hb0;have hs:=(ad.cell (p:=⟨w.heap.size,1,none⟩) (Nat.lt_succ_self _)).trans hb1;have hx':=fun j=>(show(wr.drewN j).cell? ⟨g,off+k*2,none⟩=_ from hx)
   have hr':=fun j=>(show(wr.drewN j).cell? ⟨w.heap.size,0,none⟩=_ from hr)
   have hy':=fun j=>(show(wr.drewN j).cell? ⟨g,off+k*2+1,none⟩=_ from hy)
   have hs':=fun j=>(show(wr.drewN j).cell? ⟨w.heap.size,1,none⟩=_ from hs)
   have cZ:=qH (fun j=>(⟨HB.out.os,HB.out.tape,HB.out.output,HB.out.size,HB.out.block⟩:Below (w.heap.size+1) W1 (wr.drewN j)));have CI:=qH (fun j=>(show(wr.drewN j).ownsRow (w.heap.size+1) 78 2 _ us.length (rowCells us) from HO.out));have q1:(0:Int)≤(k:Int):=by omega
   have q2:(k:Int)<rs.length:=by omega
   clear hown bC bB ad hkk hvv qJ hnx
   cases e1:(kk.toList==key.toList) with
   |true=>
    rw[e1,if_pos rfl] at hmp;have E:=qH hmp;clear hmp;go_wp2
    go_quiet (fail)
    clear hx' hr' hy' hs';go_wp2;go_roundw
    case rel=>exact⟨k+1,laid,us,by omega,by go_num,rfl,HO.out,ga.out,E.out,by omega,cZ.out _⟩
    case measure=>simp[intOf];omega
   |false=>
    rw[e1,if_neg (by decide)] at hmp
    cases laid with
    |true=>
     rw[if_neg (by simp)] at hmp;have E:=qH hmp;clear hmp;go_wp2
     go_quiet (fail)
     go_wp2
     go_quiet (fail)
     have au:=fun j=>(cZ.out j).alloc (by show _≤wr.heap.size;omega) (Obj.cells #[.string kk,.slice A2 nx c2] 78)
     have aI:=fun j=>own_below (CI.out j) ((Below.refl _ _).alloc (Nat.le_refl _) (Obj.cells #[.string kk,.slice A2 nx c2] 78))
     go_wp2_with (at_builtin;refine wpList_own rfl (.tmp 38) (.tmp 43) 40 40 rfl (w.heap.size+1) 78 (.agg #[.string ⟨#[]⟩,.slice none 0 0]) 2 40 Tryz.underlying40 info78 rfl rfl (aI _) rfl (src_two _ (by simp) Tryz.underlying40 78 _ _ rfl rfl) (au _) (Nat.le_refl _) ?_ ?_ ?_ ?_)
     ·unfold maxLen;omega
     ·omega
     ·have:=(au 0).size;have h9:w.heap.size+1≤wr.heap.size:=(by omega);simp;omega
     intro v5 w5 dj hbn5 hgn5;obtain⟨g5,c5,rfl⟩:=ownsRow_succ dj;have dK:=qH dj;have ax:=qH hbn5;clear au aI dj hbn5 hgn5;go_wp2;go_roundw
     case rel=>
      refine⟨k+1,true,us++ [(kk,vv,.slice A2 nx c2)],by omega,by go_num,rfl,?_,?_,?_,by simp;omega,ax.out⟩
      ·rw[List.length_append,rowCells_append]
       exact dK.out
      ·intro y hy
       rcases List.mem_append.1 hy with hy|hy
       ·exact ga.out y hy
       ·simp only[List.mem_singleton] at hy
        subst hy;exact vx.out
      ·rw[List.map_append,List.append_assoc]
       exact E.out
     case measure=>simp[intOf];omega
    |false=>
     rcases sle_cases kk key with ⟨h0,h1⟩|⟨h0,h1,h2⟩|⟨h0,h1,h2⟩
     ·rw[if_neg (by rw[h0];simp)] at hmp
      clear h0;have E:=qH hmp;clear hmp;go_wp2
      go_quiet (fail)
      go_wp2
      go_quiet (fail)
      have au:=fun j=>(cZ.out j).alloc (by show _≤wr.heap.size;omega) (Obj.cells #[.string kk,.slice A2 nx c2] 78)
      have aI:=fun j=>own_below (CI.out j) ((Below.refl _ _).alloc (Nat.le_refl _) (Obj.cells #[.string kk,.slice A2 nx c2] 78))
      go_wp2_with (at_builtin;refine wpList_own rfl (.tmp 38) (.tmp 43) 40 40 rfl (w.heap.size+1) 78 (.agg #[.string ⟨#[]⟩,.slice none 0 0]) 2 40 Tryz.underlying40 info78 rfl rfl (aI _) rfl (src_two _ (by simp) Tryz.underlying40 78 _ _ rfl rfl) (au _) (Nat.le_refl _) ?_ ?_ ?_ ?_)
      ·unfold maxLen;omega
      ·omega
      ·have:=(au 0).size;have h9:w.heap.size+1≤wr.heap.size:=(by omega);simp;omega
      intro v5 w5 dj hbn5 hgn5;obtain⟨g5,c5,rfl⟩:=ownsRow_succ dj;have dK:=qH dj;have ax:=qH hbn5;clear au aI dj hbn5 hgn5;go_wp2;go_roundw
      case rel=>
       refine⟨k+1,false,us++ [(kk,vv,.slice A2 nx c2)],by omega,by go_num,rfl,?_,?_,?_,by simp;omega,ax.out⟩
       ·rw[List.length_append,rowCells_append]
        exact dK.out
       ·intro y hy
        rcases List.mem_append.1 hy with hy|hy
        ·exact ga.out y hy
        ·simp only[List.mem_singleton] at hy
         subst hy;exact vx.out
       ·rw[List.map_append,List.append_assoc]
        exact E.out
      case measure=>simp[intOf];omega
     ·rw[e1] at h2
      cases h2
     ·rw[if_pos ⟨rfl,h0⟩] at hmp
      clear h0;have E:=qH hmp;clear hmp;go_wp2
      go_quiet (fail)
      go_wp2
      go_quiet (fail)
      have hb4:=fun j=>(cZ.out j).alloc (by show _≤wr.heap.size;omega) (Obj.cells #[.string key,.slice A1 nu cu] 78)
      have bH:=fun j=>own_below (CI.out j) ((Below.refl _ _).alloc (Nat.le_refl _) (Obj.cells #[.string key,.slice A1 nu cu] 78))
      go_wp2_with (at_builtin;refine wpList_own rfl (.tmp 34) (.tmp 36) 40 40 rfl (w.heap.size+1) 78 (.agg #[.string ⟨#[]⟩,.slice none 0 0]) 2 40 Tryz.underlying40 info78 rfl rfl (bH _) rfl (src_two _ (by simp) Tryz.underlying40 78 _ _ rfl rfl) (hb4 _) (Nat.le_refl _) ?_ ?_ ?_ ?_)
      ·unfold maxLen;omega
      ·omega
      ·have:=(hb4 0).size;have h9:w.heap.size+1≤wr.heap.size:=(by omega);simp;omega
      intro v4 w4 di hbn4 hgn4;obtain⟨g4,c4,rfl⟩:=ownsRow_succ di;have jp:=qH di;have ai:=qH hbn4;clear hb4 bH di hbn4 hgn4;have E8:=(ai.out.cell (p:=⟨g,off+k*2,none⟩) hgl).trans dt;have KO:=(ai.out.cell (p:=⟨g,off+k*2+1,none⟩) hgl).trans hk1;have hr4:=(ai.out.cell (p:=⟨w.heap.size,0,none⟩) (Nat.lt_succ_self _)).trans hb0;have hs4:=(ai.out.cell (p:=⟨w.heap.size,1,none⟩) (Nat.lt_succ_self _)).trans hb1;clear hx hy hr hs hx' hr' hy' hs';have au:=ai.out.alloc (by have:=ai.out.size;omega) (Obj.cells #[.string kk,.slice A2 nx c2] 78);have aI:=own_below jp.out ((Below.refl _ _).alloc (Nat.le_refl _) (Obj.cells #[.string kk,.slice A2 nx c2] 78));go_wp2_with (at_builtin;refine wpList_own rfl (.tmp 38) (.tmp 43) 40 40 rfl (w.heap.size+1) 78 (.agg #[.string ⟨#[]⟩,.slice none 0 0]) 2 40 Tryz.underlying40 info78 rfl rfl aI rfl (src_two _ (by simp) Tryz.underlying40 78 _ _ rfl rfl) au (Nat.le_refl _) ?_ ?_ ?_ ?_)
      ·unfold maxLen;omega
      ·omega
      ·have:=au.size;have h9:w.heap.size+1≤W1.heap.size:=(by omega);simp at this⊢;omega
      intro v5 w5 dj hbn5 hgn5;obtain⟨g5,c5,rfl⟩:=ownsRow_succ dj;have dK:=qH dj;have ax:=qH hbn5;clear au aI dj hbn5 hgn5;go_wp2;go_roundw
      case rel=>
       refine⟨k+1,true,us++ [(key,val,.slice A1 nu cu),(kk,vv,.slice A2 nx c2)],by omega,by go_num,rfl,?_,?_,?_,by simp;omega,ax.out⟩
       ·rw[List.length_append,rowCells_append]
        have h7:=dK.out;simp only[rowCells,List.flatMap_cons,List.flatMap_nil,List.cons_append,List.nil_append] at h7⊢;exact h7
       ·intro y hy
        rcases List.mem_append.1 hy with hy|hy
        ·exact ga.out y hy
        ·simp only[List.mem_cons,List.not_mem_nil,or_false] at hy
         rcases hy with rfl|rfl
         ·exact zW.out
         ·exact vx.out
       ·rw[List.map_append,List.append_assoc]
        exact E.out
      case measure=>simp[intOf];omega
  ·obtain rfl:k=rs.length:=by omega
   rw[List.drop_length] at hmp;have HO:=qH hown;have ga:=qH bC;have HB:=qH ad;have hr:=(ad.cell (p:=⟨w.heap.size,0,none⟩) (Nat.lt_succ_self _)).trans hb0;have hs:=(ad.cell (p:=⟨w.heap.size,1,none⟩) (Nat.lt_succ_self _)).trans hb1;have Bf:=qH hmp;clear hown bC ad hmp
   cases laid with
   |true=>
    have HT:=qH (show us.map (fun x=>(x.1,x.2.1))=layF (key,val) rs false by rw[←Bf.out];simp[layF]);go_wp2;go_ret;exact⟨_,rfl,by rw[←HT.out];exact RVP.own HO.out ga.out (fun k hk=>Nat.lt_succ_of_lt (HA.out k hk)),an.out.trans (HB.out.mono (Nat.le_succ _))⟩
   |false=>
    have HT:=qH (show us.map (fun x=>(x.1,x.2.1))++ [(key,val)]=layF (key,val) rs false by rw[←Bf.out];simp[layF]);have au:=HB.out.alloc (by have:=HB.out.size;omega) (Obj.cells #[.string key,.slice A1 nu cu] 78);have aI:=own_below HO.out ((Below.refl _ _).alloc (Nat.le_refl _) (Obj.cells #[.string key,.slice A1 nu cu] 78));go_wp2_with (at_builtin;refine wpList_own rfl (.tmp 47) (.tmp 49) 40 40 rfl (w.heap.size+1) 78 (.agg #[.string ⟨#[]⟩,.slice none 0 0]) 2 40 Tryz.underlying40 info78 rfl rfl aI rfl (src_two _ (by simp) Tryz.underlying40 78 _ _ rfl rfl) au (Nat.le_refl _) ?_ ?_ ?_ ?_)
    ·unfold maxLen;omega
    ·omega
    ·have:=au.size;have h9:w.heap.size+1≤W1.heap.size:=(by omega);simp at this⊢;omega
    intro v5 w5 dj hbn5 hgn5;obtain⟨g5,c5,rfl⟩:=ownsRow_succ dj;have dK:=qH dj;have ax:=qH hbn5;clear au aI dj hbn5 hgn5;go_wp2;go_ret;refine⟨_,rfl,?_,an.out.trans (ax.out.mono (Nat.le_succ _))⟩;have ht:((us++ [(key,val,.slice A1 nu cu)]:List (ByteArray×List UInt8×Value))).map (fun x=>(x.1,x.2.1))=layF (key,val) rs false:=by rw[List.map_append];exact HT.out
    rw[←ht];refine RVP.own (base:=w.heap.size+1) (eR:=78) ?_ (fun x hx=>?_) (fun k hk=>Nat.lt_succ_of_lt (HA.out k hk))
    ·rw[List.length_append,rowCells_append]
     exact dK.out
    ·rcases List.mem_append.1 hx with hx|hx
     ·exact ga.out x hx
     ·simp only[List.mem_singleton] at hx
      subst hx;exact zW.out
end Go.Proofs.YtmbkaedhllfoeaaGreat
namespace Go.Pg
theorem outL_go{k:ByteArray}{rs:List Rw}{j:Nat}(h:j<rs.length):outL k (rs.take (j+1))=if (rs[j].1.toList==k.toList)=true then outL k (rs.take j) else outL k (rs.take j)++ [rs[j]]:=by
 unfold outL;rw[List.take_succ_eq_append_getElem h,List.filter_append,List.filter_cons,List.filter_nil];cases rs[j].1.toList==k.toList <;>simp
end Go.Pg
namespace Go.Proofs.YtmbkaedhllfoeaaGreat
open Go.RowKit Go.Rst Go.Pg Go.Crc
end Go.Proofs.YtmbkaedhllfoeaaGreat
namespace Go.Pg
end Go.Pg
namespace Go.Proofs.YtmbkaedhllfoeaaGreat
open Go.RowKit Go.Rst Go.Pg Go.Crc
theorem outP_any{P:Value→List UInt8→Prop}{A:Nat→Prop}(v:Value)(rs:List Rw)(key:ByteArray)(w:World)(hP:∀u l,P u l→∃A c,u= .slice A l.length c)(hA:∀k,A k→k<w.heap.size)(ho:RVP P A w v rs)(hlen:rs.length≤3000000000001):
  Calls Tryz.prog 101 #[v,.string key] w fun e w'=>∃v',e= .returned v'∧RVP P A w' v' (outL key rs)∧Below w.heap.size w w':=by
 have iO:=qH ho;have HP:=qH hP;have HA:=qH hA;clear hP hA;obtain⟨Al,cl,rfl,_,_⟩:=ho.shape;clear ho;go_enter Tryz.func101,Tryz.ntmps101;go_wp2
 go_loopw [5,6] (fun ov i wr=>∃(k:Nat) (us:List (ByteArray×List UInt8×Value)),k≤rs.length∧i= .int .i64 k∧wr.ownsRow w.heap.size 78 2 ov us.length (rowCells us)∧(∀x∈us,P x.2.2 x.2.1)∧
   us.map (fun x=>(x.1,x.2.1))=outL key (rs.take k)∧us.length≤k∧Below w.heap.size w wr) (fun _ i _=>rs.length-(intOf i).toNat)
 case atStart=>exact⟨0,[],Nat.zero_le _,rfl,World.ownsRow_nil _ _ _ _,fun _ h=>(by cases h),rfl,by simp,Below.refl _ _⟩
 case round=>
  obtain⟨k,us,hk,rfl,hown,bC,hmp,Hf,ad⟩:=hrel;obtain⟨Ao,co,rfl,_⟩:=own_shape hown;have qk:=ad.size;by_cases hlt:k<rs.length
  ·obtain⟨g,off,ux,rfl,hgl,dt,hk1,bB⟩:=rvp_at iO.out hlt
   have hgo:=outL_go (k:=key) hlt;obtain⟨A2,c2,ti⟩:=HP.out _ _ bB;obtain⟨kk,hkk⟩:∃x,x=rs[k].1:=⟨_,rfl⟩
   obtain⟨vv,hvv⟩:∃x,x=rs[k].2:=⟨_,rfl⟩
   have qJ:rs[k]=(kk,vv):=by rw[hkk,hvv]
   rw[←hkk] at dt;rw[←hvv] at ti bB;rw[qJ] at hgo;simp only[] at hgo;obtain⟨nx,hnx⟩:∃nx,nx=vv.length:=⟨_,rfl⟩
   rw[←hnx] at ti;subst ti;have HO:=qH hown;have ga:=qH bC;have vx:=qH bB;have HB:=qH ad;have hx:=(ad.cell (p:=⟨g,off+k*2,none⟩) hgl).trans dt;have hy:=(ad.cell (p:=⟨g,off+k*2+1,none⟩) hgl).trans hk1;have q1:(0:Int)≤(k:Int):=by omega
   have q2:(k:Int)<rs.length:=by omega
   clear hown bC bB ad hkk hvv qJ hnx dt hk1
   cases e1:(kk.toList==key.toList) with
   |true=>
    rw[e1,if_pos rfl,←hmp] at hgo;have E:=qH hgo;clear hgo hmp;go_wp2;go_roundw
    case rel=>exact⟨k+1,us,by omega,by go_num,HO.out,ga.out,E.out.symm,by omega,HB.out⟩
    case measure=>simp[intOf];omega
   |false=>
    rw[e1,if_neg (by decide),←hmp] at hgo;have E:=qH hgo;clear hgo hmp;have au:=HB.out.alloc (by omega) (Obj.cells #[.string kk,.slice A2 nx c2] 78);have aI:=own_below HO.out ((Below.refl _ _).alloc (Nat.le_refl _) (Obj.cells #[.string kk,.slice A2 nx c2] 78));go_wp2_with (at_builtin;refine wpList_own rfl (.tmp 20) (.tmp 25) 40 40 rfl w.heap.size 78 (.agg #[.string ⟨#[]⟩,.slice none 0 0]) 2 40 Tryz.underlying40 info78 rfl rfl aI rfl (src_two _ (by simp) Tryz.underlying40 78 _ _ rfl rfl) au (Nat.le_refl _) ?_ ?_ ?_ ?_)
    ·unfold maxLen;omega
    ·omega
    ·simp;omega
    intro v5 w5 dj hbn5 hgn5;obtain⟨g5,c5,rfl⟩:=ownsRow_succ dj;have dK:=qH dj;have ax:=qH hbn5;clear au aI dj hbn5 hgn5;go_wp2;go_roundw
    case rel=>
     refine⟨k+1,us++ [(kk,vv,.slice A2 nx c2)],by omega,by go_num,?_,?_,?_,by simp;omega,ax.out⟩
     ·rw[List.length_append,rowCells_append]
      exact dK.out
     ·intro y hy
      rcases List.mem_append.1 hy with hy|hy
      ·exact ga.out y hy
      ·simp only[List.mem_singleton] at hy
       subst hy;exact vx.out
     ·rw[List.map_append,E.out]
      rfl
    case measure=>simp[intOf];omega
  ·obtain rfl:k=rs.length:=by omega
   rw[List.take_length] at hmp;have HO:=qH hown;have ga:=qH bC;have HB:=qH ad;have Bf:=qH hmp;clear hown bC ad hmp;go_wp2;go_ret;exact⟨_,rfl,by rw[←Bf.out];exact RVP.own HO.out ga.out HA.out,HB.out⟩
open Go.RowKit Go.Rst Go.Pg Go.Crc Go.Dv
theorem refApplyP_any{P:Value→List UInt8→Prop}{A:Nat→Prop}(v u:Value)(rs:List Rw)(cs:List Chg)(w:World)(hP:∀u l,P u l→∃A c,u= .slice A l.length c)(hA:∀k,A k→k<w.heap.size)(hv:RVP P A w v rs)(hu:CVP P w u cs)(hlen:rs.length+cs.length≤3000000000000):
  Calls Tryz.prog 57 #[v,u] w fun e w'=>∃v',e= .returned v'∧RVP P A w' v' (applyL rs cs)∧Below w.heap.size w w':=by
 have HC:=qH hu;have HP:=qH hP;have HA:=qH hA;clear hP hA;obtain⟨Au,cu,rfl,Hc,kf,_⟩:=hu;unfold maxLen at kf;have HV:=qH hv;obtain⟨A0,c0,rfl,_,_⟩:=hv.shape;clear hv;go_enter Tryz.func57,Tryz.ntmps57;go_wp2
 go_loopw [0,5] (fun lv i wr=>∃k:Nat,k≤cs.length∧i= .int .i64 k∧RVP P A wr lv (applyL rs (cs.take k))∧Below w.heap.size w wr) (fun _ i _=>cs.length-(intOf i).toNat)
 case atStart=>exact⟨0,Nat.zero_le _,rfl,HV.out,Below.refl _ _⟩
 case round=>
  obtain⟨k,hk,rfl,ib,ad⟩:=hrel;obtain⟨Wo,iq⟩:∃x,x=wr:=⟨_,rfl⟩
  subst iq;have hal:=applyL_len rs (cs.take k);rw[List.length_take] at hal;by_cases hlt:k<cs.length
  ·obtain⟨b,off,uv,rfl,hx,hy,hr,hz⟩:=cvp_at HC.out hlt
   have aj:b<w.heap.size:=block_lt_of_cell hx;have hstep:=applyL_take (l:=rs) hlt;obtain⟨acc,hacc⟩:∃acc,acc=applyL rs (cs.take k):=⟨_,rfl⟩
   rw[←hacc] at ib hal hstep;obtain⟨kk,hkk⟩:∃x,x=cs[k].1:=⟨_,rfl⟩
   obtain⟨vv,hvv⟩:∃x,x=cs[k].2.1:=⟨_,rfl⟩
   obtain⟨gg,hgg⟩:∃x,x=cs[k].2.2:=⟨_,rfl⟩
   have cj:cs[k]=(kk,vv,gg):=by rw[hkk,hvv,hgg]
   rw[←hkk] at hx;rw[←hvv] at hr;rw[←hgg] at hz;rw[cj] at hstep;have hx':=(ad.cell (p:=⟨b,off+k*3,none⟩) aj).trans hx;have hy':=(ad.cell (p:=⟨b,off+k*3+1,none⟩) aj).trans hy;have hz':=(ad.cell (p:=⟨b,off+k*3+2,none⟩) aj).trans hz;have JU:=fun j=>(show(Wo.drewN j).cell? ⟨b,off+k*3,none⟩=_ from hx')
   have xE:=fun j=>(show(Wo.drewN j).cell? ⟨b,off+k*3+1,none⟩=_ from hy')
   have bz:=outP_any _ acc kk Wo HP.out (fun k hk=>Nat.lt_of_lt_of_le (HA.out k hk) ad.size) ib (by omega);have cy:=fun X (hb:Below Wo.heap.size Wo X)=>putP_any _ acc kk uv vv X HP.out (fun k hk=>Nat.lt_of_lt_of_le (HA.out k hk) (Nat.le_trans ad.size hb.size)) (ib.below hb (Nat.le_refl _)) hr (by omega)
   have hbs:b<Wo.heap.size:=Nat.lt_of_lt_of_le aj ad.size;obtain⟨Al,cl,rfl,_,_⟩:=ib.shape;obtain⟨A1,c1,ah⟩:=HP.out _ _ hr;obtain⟨nv,rG⟩:∃nv,nv=vv.length:=⟨_,rfl⟩
   rw[←rG] at ah;subst ah;have H1:=qH bz;have H2:=qH cy;have HST:=qH hstep;have HB:=qH ad;have q1:(0:Int)≤(k:Int):=by omega
   have q2:(k:Int)<cs.length:=by omega
   clear bz cy hstep ad ib hr hx hy hz hkk hvv hgg cj hacc rG
   cases gg with
   |true=>
    go_wp2_with fail
    refine H1.out.mono ?_;rintro e w3⟨v3,rfl,h3,hb3⟩;obtain⟨A3,c3,rfl,_,_⟩:=h3.shape;have H3:=qH h3;have ak:=qH (HB.out.trans (hb3.mono HB.out.size));clear h3 hb3;go_wp2;go_roundw
    case rel=>exact⟨k+1,by omega,by go_num,by rw[HST.out];exact H3.out,ak.out⟩
    case measure=>simp[intOf];omega
   |false=>
    go_wp2;refine wp_region_held_drew (S:=SB [Wo]) (by kernel_rfl) (SB.start _) (fun hHeld=>?_);refine tkC 0 ?_;refine tkC 1 ?_;refine tkC 2 ?_;refine tkC 3 ?_;refine tkC 4 ?_;refine tkA 5 (v:=?_) ?_ ?_;rotate_left
    ·intro W hSw;have hq:=((SB.b0 hSw).cell (p:=⟨b,off+k*3,none⟩) hbs).trans hx';go_simp;try (with_reducible rfl)
    try simp only[Act.put,zA,zB,zC]
    refine tkC 6 ?_;refine tkC 7 ?_;refine tkC 8 ?_;refine tkC 9 ?_;refine tkA 10 (v:=?_) ?_ ?_;rotate_left
    ·intro W hSw;have hq:=((SB.b0 hSw).cell (p:=⟨b,off+k*3+1,none⟩) hbs).trans hy';go_simp;try (with_reducible rfl)
    try simp only[Act.put,zA,zB,zC]
    refine tkC 11 ?_;refine rdA (rs:= [12]) ?_;refine arC (fun K hK=>?_);go_simp;refine(H2.out _ (SB.b0 hHeld)).mono ?_;rintro e w3⟨v3,rfl,h3,aZ⟩;obtain⟨A3,c3,rfl,_,_⟩:=h3.shape;try (go_wp2_with fail)
    have ac:=SB.step hHeld aZ;refine hK.out _ _ ?_ (fun _=>?_)
    ·exact ac
    clear hK K;try simp only[Act.put,zA,zB,zC]
    have hHeld:=SB.more ac;clear ac;refine wpAnyH_more (S':=SB [w3,Wo]) (fun W h=>SB.less W h) _ _ _ _ ?_;refine tkC 13 ?_;try simp only[Act.put,List.setIfInBounds_toArray,List.set_cons_zero]
    refine wpAnyH_done (by kernel_rfl) ?_ _;have H3:=qH (h3.below (SB.b0 hHeld) (Nat.le_refl _));have ak:=qH (HB.out.trans ((SB.b1 hHeld).mono HB.out.size));clear h3 hHeld hx' hy' hz' JU xE;go_wp2;go_roundw
    case rel=>exact⟨k+1,by omega,by go_num,by rw[HST.out];exact H3.out,ak.out⟩
    case measure=>simp[intOf];omega
  ·obtain rfl:k=cs.length:=by omega
   rw[List.take_length] at ib;obtain⟨Al,cl,rfl,_,_⟩:=ib.shape;have H3:=qH ib;have HB:=qH ad;clear ib ad;go_wp2;go_ret;exact⟨_,rfl,H3.out,HB.out⟩
theorem refApplyD_any{A:Nat→Prop}(v u:Value)(rs:List Rw)(cs:List Chg)(w:World)(hA:∀k,A k→k<w.heap.size)(hv:RRd A w v rs)(hu:CRd A w u cs)(hlen:rs.length+cs.length≤3000000000000):
  Calls Tryz.prog 57 #[v,u] w fun e w'=>∃v',e= .returned v'∧RRd A w' v' (applyL rs cs)∧Below w.heap.size w w':=by
 refine(refApplyP_any v u rs cs w (fun _ _ h=>rad_shape h) hA hv hu hlen).mono ?_;rintro e w1⟨v',rfl,h1,hb⟩;exact⟨v',rfl,RVP.fr h1 (Fr.refl (fun _=>False) _) (fun _ h=>h.elim) (fun _ h=> .inl h) (fun _ _ h=>h.fr (D:=fun _=>False) (Fr.of_below hb) (fun _ h=>h.elim) (fun _ h=> .inl h)),hb⟩
end Go.Proofs.YtmbkaedhllfoeaaGreat
