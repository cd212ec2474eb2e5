/-
  Texts of the proof, put together.
-/
import Derived.Laws.MakeOwn
import Derived.Test.YtmbkaedhllfoeaaGreatKPH
import Derived.Test.YtmbkaedhllfoeaaGreatKPBF
import Derived.Test.YtmbkaedhllfoeaaGreatKPWr
set_option maxRecDepth 100000
set_option maxHeartbeats 4000000
set_option linter.unusedVariables false
namespace Go.Proofs.YtmbkaedhllfoeaaGreat
open Go.RowKit Go.Rst Go.Crc
theorem wordP_any(n:Nat)(hn:n≤1073741824)(w:World):Calls Tryz.prog 144 #[.int .i64 n] w (NewB 5 w (wordL n)):=by
 go_enter Tryz.func144,Tryz.ntmps144;go_wp2;go_ret;exact⟨_,rfl,own_lit (by have h:=word_cells (n:=n);rw[show(n:Int)/16777216%256=(n:Int)/16777216 by omega] at h;exact h) rfl (by decide),(Below.refl _ _).alloc (Nat.le_refl _) _⟩
theorem counts_any(n:Int)(w:World):Calls Tryz.prog 108 #[.int .i64 n] w fun e w'=>e= .returned (.bool (decide (0≤n∧n≤1073741824)))∧w=w':=by
 by_cases h1:0≤n
 ·by_cases h2:n≤1073741824
  ·have e:decide (0≤n∧n≤1073741824)=true:=by simp[h1,h2]
   rw[e];go_enter Tryz.func108,Tryz.ntmps108;go_wp2;go_ret;exact⟨rfl,rfl⟩
  ·have e:decide (0≤n∧n≤1073741824)=false:=by simp[h1,h2]
   rw[e];go_enter Tryz.func108,Tryz.ntmps108;go_wp2;go_ret;exact⟨rfl,rfl⟩
 ·have e:decide (0≤n∧n≤1073741824)=false:=by simp[h1]
  rw[e];go_enter Tryz.func108,Tryz.ntmps108;go_wp2;go_ret;exact⟨rfl,rfl⟩
theorem PS.five{w:World}{v0 v1 v2 v3 v4:Value}{l0 l1 l2 l3 l4:List UInt8}{e:TypeId}(h0:RB w v0 l0)(h1:RB w v1 l1)(h2:RB w v2 l2)(h3:RB w v3 l3)(h4:RB w v4 l4):
  PS (w.alloc (.cells #[v0,v1,v2,v3,v4] e)) (.slice (some ⟨w.heap.size,0,none⟩) 5 5) [(v0,l0),(v1,l1),(v2,l2),(v3,l3),(v4,l4)]:=by
 refine⟨w.heap.size,0,5,rfl,by simp,by decide,by simp,fun j hj=>?_⟩;have hc:=cell_of_row (w.alloc (.cells #[v0,v1,v2,v3,v4] e)) w.heap.size (0+j) #[v0,v1,v2,v3,v4] e (0,0) (heap_alloc_new w _)
 match j,hj with
 |0,_=>exact⟨hc,h0.alloc _⟩
 |1,_=>exact⟨hc,h1.alloc _⟩
 |2,_=>exact⟨hc,h2.alloc _⟩
 |3,_=>exact⟨hc,h3.alloc _⟩
 |4,_=>exact⟨hc,h4.alloc _⟩
theorem cat_sector(ep n i of:Nat)(b:List UInt8)(hb:b.length≤49)(v0 v1 v2 v3 v4:Value):
  cat [(v0,wordL ep),(v1,wordL n),(v2,[UInt8.ofNat i,UInt8.ofNat of,UInt8.ofNat b.length]),(v3,b),(v4,List.replicate (49-b.length) 0)]=pad60 (headL ep n i of b):=by
 unfold pad60;rw[headL_length,show 60-(11+b.length)=49-b.length by omega];simp[cat,headL,List.append_assoc]
theorem sector_any(ep n i of:Nat)(v:Value)(b:List UInt8)(he:ep≤1073741824)(hn:n≤1073741824)(w:World)(hv:RB w v b)(hb:b.length≤49):
  Calls Tryz.prog 110 #[.int .i64 ep,.int .i64 n,.int .i64 i,.int .i64 of,v] w (NewB 5 w (partL ep n i of b)):=by
 obtain⟨i5,hi5,jv,hs5,au⟩:=info_parts info5;have kS:=qH hi5;have lA:=qH jv;have iF:=qH hs5;have ax:=qH au;clear hi5 jv hs5 au;have HV:=qH hv;obtain⟨A,c,rfl,_⟩:=hv;obtain⟨L,hL⟩:∃L,L=b.length:=⟨_,rfl⟩
 have cG:=cat_sector ep n i of b hb;have hpl:(pad60 (headL ep n i of b)).length=60:=by unfold pad60;rw[List.length_append,List.length_replicate,headL_length];omega
 have hpt:partL ep n i of b=sealL (pad60 (headL ep n i of b)):=rfl;have h3:=three_cells (i:=i) (o:=of) (l:=b.length) (by omega);rw[←hL] at cG h3 hb;rw[←hL];generalize partL ep n i of b=PT at *;generalize pad60 (headL ep n i of b)=PD at *;obtain⟨H3,CX⟩:∃H3,H3= [UInt8.ofNat i,UInt8.ofNat of,UInt8.ofNat L]:=⟨_,rfl⟩
 rw[←CX] at cG h3;have yJ:=qH (show H3.length=3 by rw[CX];rfl);have HC:=qH cG;have cW:=qH hpl;have j6:=qH hpt;have Hx:=qH h3;have HL:=qH hL;have hm:(49:Int)-(L:Int)=((49-L:Nat):Int):=by omega
 obtain⟨M,hM⟩:∃M,M=49-L:=⟨_,rfl⟩
 rw[←hM] at hm;have HM:=qH hM;have Kp:M≤49:=by omega
 clear cG hpl hpt h3 CX hL hM;go_enter Tryz.func110,Tryz.ntmps110;go_wp2_with (refine wpList_make_full _ rfl (.tmp 23) (.tmp 23) 46 rfl 0 5 i5 (.int .u8 0) 1 Tryz.underlying46 kS.out lA.out iF.out .i64 .i64 (M:Int) (M:Int) M rfl rfl rfl rfl (by rw[ax.out];omega) (by unfold maxLen;omega) (Nat.zero_le _) ?_)
 intro w1 hown1 hgrow1;have b0:Below w.heap.size w (w.alloc (.cells #[.int .u8 ((i:Int)%256),.int .u8 ((of:Int)%256),.int .u8 (L:Int)] 5)):=(Below.refl _ _).alloc (Nat.le_refl _) _;have o3:(w.alloc (.cells #[.int .u8 ((i:Int)%256),.int .u8 ((of:Int)%256),.int .u8 (L:Int)] 5)).ownsRow w.heap.size 5 1 (.slice (some ⟨w.heap.size,0,none⟩) 3 3) H3.length (bvs H3):=own_lit Hx.out (by rw[yJ.out]) (by decide);have b1:Below (w.heap.size+1) (w.alloc (.cells #[.int .u8 ((i:Int)%256),.int .u8 ((of:Int)%256),.int .u8 (L:Int)] 5)) w1:=((Below.refl _ _).grown hgrow1 (by simp) (fun z hz=>by cases hz))
 have r3:=(RB.own o3).below (show Below (w.alloc (.cells #[.int .u8 ((i:Int)%256),.int .u8 ((of:Int)%256),.int .u8 (L:Int)] 5)).heap.size _ w1 by rw[World.size_alloc];exact b1);have rb:=HV.out.below (b0.trans (b1.mono (Nat.le_succ _)));have r0:RB w1 (.slice (some ⟨w.heap.size+1,0,none⟩) M M) (List.replicate M 0):=by
  have h:=hown1;rw[madeL] at h;exact RB.own (by rw[List.length_replicate];exact h)
 have aj:=b0.trans (b1.mono (Nat.le_succ _));have R3:=qH r3;have un:=qH rb;have R0:=qH r0;have HB:=qH aj;clear b0 o3 b1 r3 rb r0 aj hown1 hgrow1;go_wp2_with fail
 refine(wordP_any ep he _).mono ?_;rintro e w2⟨v2,rfl,aQ,hb2⟩;obtain⟨A2,c2,rfl,_⟩:=own_shape aQ;have R3:=qH (R3.out.below hb2);have un:=qH (un.out.below hb2);have R0:=qH (R0.out.below hb2);have R2:=qH (RB.own aQ);have HB:=qH (HB.out.trans (hb2.mono HB.out.size));clear aQ hb2;go_wp2_with fail
 refine(wordP_any n hn _).mono ?_;rintro e w3⟨v3,rfl,cT,hb3⟩;obtain⟨A4,c4,rfl,_⟩:=own_shape cT;have hps:=PS.five (e:=46) (R2.out.below hb3) (RB.own cT) (R3.out.below hb3) (un.out.below hb3) (R0.out.below hb3);rw[wordL_length,wordL_length] at hps;have HB:=qH ((HB.out.trans (hb3.mono HB.out.size)));have hcc:=HC.out (.slice A2 4 c2) (.slice A4 4 c4) (.slice (some ⟨w.heap.size,0,none⟩) 3 3) (.slice A b.length c) (.slice (some ⟨w.heap.size+1,0,none⟩) M M);rw[←HM.out] at hcc;have hcall:=concat_any _ _ _ hps (by rw[hcc,cW.out];decide);rw[hcc] at hcall;rw[←HL.out] at hcall;have qV:=qH hcall;have bA:=HB.out.alloc HB.out.size (.cells #[.slice A2 4 c2,.slice A4 4 c4,.slice (some ⟨w.heap.size,0,none⟩) 3 3,.slice A L c,.slice (some ⟨w.heap.size+1,0,none⟩) M M] 46);have jm:=qH bA;clear hcc hcall hps cT hb3 bA;rw[wordL_length,wordL_length];go_wp2_with fail
 refine qV.out.mono ?_;rintro e w5⟨v5,rfl,aI,au⟩;have HS:=qH (seal_any v5 PD w5 (RB.own aI) (by rw[cW.out];decide));rw[←j6.out] at HS;have aE:=qH (jm.out.trans (au.mono jm.out.size));obtain⟨A5,c5,rfl,_⟩:=own_shape aI;clear aI au qV;go_wp2_with fail
 refine HS.out.mono ?_;rintro e w6⟨v6,rfl,dG,ap⟩;have jZ:=qH (own_base dG aE.out.size);have bo:=qH (aE.out.trans (ap.mono aE.out.size));obtain⟨A6,c6,rfl,_⟩:=own_shape dG;clear dG ap HS;go_wp2;go_ret;exact⟨_,rfl,jZ.out,bo.out⟩
end Go.Proofs.YtmbkaedhllfoeaaGreat
