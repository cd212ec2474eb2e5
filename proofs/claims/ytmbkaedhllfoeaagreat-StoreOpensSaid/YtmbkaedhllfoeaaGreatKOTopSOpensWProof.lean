/-
 StoreOpens returns true for every number, every row of deeds and every two rows of bytes that may come in, and changes nothing that was there.
-/
import Derived.Test.YtmbkaedhllfoeaaGreatRows
import Derived.WalkKit
import Derived.ProofKit
import Derived.OpenShut
import Derived.ShutString
import Derived.ChangeOld
import Derived.Below
import Derived.SizedLaws
import Derived.Test.YtmbkaedhllfoeaaGreatKOFB
import Derived.Test.YtmbkaedhllfoeaaGreatKOFD
set_option linter.unusedVariables false
namespace Go.Proofs.YtmbkaedhllfoeaaGreat.storeOpens
open Go.Rst Go.Dv
open Go.ChangeShapes Go.WideShapes Go.ChangeAt Go.RowKit
open Go.ChangeMaps (open_string shut_string)
set_option linter.unusedVariables false
theorem own:ownKnob Tryz.prog.godebug=none:=by kernel_rfl
theorem laidOut:laidOutB Tryz.prog=true:=by kernel_rfl
set_option maxRecDepth 100000 in
theorem lifted(os:Os)(started:os.Started)(H:Type)(enc:TypeId×Value→H):
  ReturnsInHanded {} Tryz.checked os 4 .any (Rows.storeOpensSpec.pre6 enc Tryz.prog Tryz.f4 Rows.storeOpensRow.domain false) (Rows.storeOpensSpec.post enc Tryz.prog Tryz.f4 false true false false):=by
 refine returnsInHanded_of_change_sized (C:=Tryz.checked) own started (by kernel_rfl) Tryz.func4
  (ChangeSpec.witness6 (enc:=enc) (C:=Tryz.checked) false ⟨#[],#[.int .u8 0,.int .i64 0,.slice none 0 0,.slice none 0 0,.slice none 0 0],[]⟩ 8 (by kernel_rfl) (by kernel_rfl) (by kernel_rfl) (by kernel_rfl)) ?_
 intro W base args ds gs before hval0 hW hcnd hsz0 _;have hval:∀(j:Nat) t v,Tryz.f4.params[j]? =some t→args[j]? =some v→Value.okWide Tryz.prog W .any base t v:=hval0;have hsz:(DataW.weightsEach Tryz.prog (Tryz.f4.params.toList++Rows.storeOpensSpec.plain.varTypes Tryz.prog) (ds++gs)).all (· ≤reachBytes)=true:=hsz0;clear hsz0;have hW':=hW;obtain⟨p,q,hA0,hV,rfl,hfz,hnd⟩:=hW;have hA:DataW.TrodAll enc Tryz.prog W 0 (fun _=>true) true Tryz.f4.params.toList args.toList ds p:=hA0;rw[Tryz.params4] at hA hval hsz;obtain⟨v0,vs0,d0,ds0,p0,q0,hargs,rfl,rfl,h0,r0⟩:=trodAll_cons hA;obtain⟨v1,vs1,d1,ds1,p1,q1,rfl,rfl,rfl,h1,r1⟩:=trodAll_cons r0;obtain⟨v2,vs2,d2,ds2,p2,q2,rfl,rfl,rfl,h2,r2⟩:=trodAll_cons r1;obtain⟨v3,vs3,d3,ds3,p3,q3,rfl,rfl,rfl,h3,r3⟩:=trodAll_cons r2;obtain⟨v4,vs4,d4,ds4,p4,q4,rfl,rfl,rfl,h4,r4⟩:=trodAll_cons r3;obtain⟨rfl,rfl,rfl⟩:=trodAll_nil r4;obtain rfl:args=#[v0,v1,v2,v3,v4]:=by cases args;simp_all
 obtain⟨rfl,rfl⟩:=trodVars_none hV;have hwt:∀(j:Nat) (t:TypeId) (d:DataW H),[5,3,22,46,46][j]? =some t→ [d0,d1,d2,d3,d4][j]? =some d→∀n∈d.weights Tryz.prog t,n≤reachBytes:=by
  intro j t d ht hd n hn;have h1:=List.all_eq_true.1 hsz _ (DataW.weights_mem_each (j:=j) (t:=t) (d:=d) (by exact ht) (by exact hd) n hn)
  simpa using h1
 obtain⟨a0,rfl,rfl,rfl,w0⟩:=open_int Tryz.underlying5 (hval 0 5 v0 rfl rfl) h0;have hb0:=w0;simp only[Lit.wf,Bool.and_eq_true,decide_eq_true_eq] at hb0;have mn0:IntKind.u8.min=0:=rfl;have mx0:IntKind.u8.max=255:=rfl;obtain⟨n0,rfl⟩:=Int.eq_ofNat_of_zero_le (show 0≤a0 by omega);obtain⟨a1,rfl,rfl,rfl,w1⟩:=open_int Tryz.underlying3 (hval 1 3 v1 rfl rfl) h1;have hb1:=w1;simp only[Lit.wf,Bool.and_eq_true,decide_eq_true_eq] at hb1;have mn1:IntKind.i64.min= -9223372036854775808:=rfl;have mx1:IntKind.i64.max=9223372036854775807:=rfl;rw[mn1,mx1] at hb1;have k2:=h2;have lt2:∀x∈p2,x.block<W.heap.size:=by obtain⟨m,hm⟩:=k2;exact DataW.trod_lt m _ _ _ hm
 obtain⟨A2,len2,cap2,rfl⟩:=okWide_slice Tryz.underlying22 (hval 2 22 v2 rfl rfl);obtain⟨l2,x2⟩:∃l:List Deed,DS W (.slice A2 len2 cap2) l:=by
  obtain⟨fuel,hf⟩:=h2;exact open_deeds (x:=(d2,p2)) hf (hwt 2 22 d2 rfl rfl)
 have k3:=h3;have lt3:∀x∈p3,x.block<W.heap.size:=by obtain⟨m,hm⟩:=k3;exact DataW.trod_lt m _ _ _ hm
 obtain⟨A3,len3,cap3,rfl⟩:=okWide_slice Tryz.underlying46 (hval 3 46 v3 rfl rfl);obtain⟨l3,x3,y3⟩:∃l:List UInt8,RB W (.slice A3 len3 cap3) l∧l.length≤140737488351232:=by
  obtain⟨fuel,hf⟩:=h3;exact open_bytes (x:=(d3,p3)) hf (hwt 3 46 d3 rfl rfl)
 have k4:=h4;have lt4:∀x∈p4,x.block<W.heap.size:=by obtain⟨m,hm⟩:=k4;exact DataW.trod_lt m _ _ _ hm
 obtain⟨A4,len4,cap4,rfl⟩:=okWide_slice Tryz.underlying46 (hval 4 46 v4 rfl rfl);obtain⟨l4,x4,y4⟩:∃l:List UInt8,RB W (.slice A4 len4 cap4) l∧l.length≤140737488351232:=by
  obtain⟨fuel,hf⟩:=h4;exact open_bytes (x:=(d4,p4)) hf (hwt 4 46 d4 rfl rfl)
 clear hA0 hval0;refine(opens_walk n0 a1 _ l2 _ l3 _ l4 W (by omega) hb1 x2 x3 y3 x4 y4).mono fun e W' ⟨he,bel⟩=>?_
 subst he;exact⟨_,rfl,_,_,_,[],_,[],hW',trodAll_mk1 (shut_bool Tryz.underlying4 _),(trodAll_cons_mk (shut_int Tryz.underlying5 w0) (trodAll_cons_mk (shut_int Tryz.underlying3 w1) (trodAll_cons_mk (Below.trod laidOut (by kernel_rfl) (of_decide_eq_true (by kernel_rfl)) k2 bel lt2) (trodAll_cons_mk (Below.trod laidOut (by kernel_rfl) (of_decide_eq_true (by kernel_rfl)) k3 bel lt3) (trodAll_cons_mk (Below.trod laidOut (by kernel_rfl) (of_decide_eq_true (by kernel_rfl)) k4 bel lt4) trodAll_mk0))))),rfl,bel.frame _,fun h=>by cases h⟩
theorem over:Rows.storeOpensRow.holds Tryz.pinned (OpenSpec.ofChange Rows.storeOpensSpec):=
 OpenClaim.holds_of_wide 4 Tryz.f4 rfl rfl rfl rfl rfl rfl rfl ⟨rfl,rfl,rfl,rfl,rfl⟩ rfl rfl rfl rfl rfl (by kernel_rfl) Tryz.func4 (by kernel_rfl)
  (of_decide_eq_true (by kernel_rfl)) (by unfold Func.isWrapper;first|(rw[if_pos (by decide +kernel)];kernel_rfl)|(rw[if_neg (by decide +kernel)];exact⟨rfl,rfl⟩))
  (fun os started H enc _=>lifted os started H enc)
theorem proved:Rows.StoreOpensSaid:=over
#print axioms proved
end Go.Proofs.YtmbkaedhllfoeaaGreat.storeOpens
