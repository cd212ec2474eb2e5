/-
  Texts of the proof, put together.
-/
set_option maxRecDepth 100000
set_option maxHeartbeats 4000000

set_option linter.unusedVariables false
namespace Go.Crc
def poly:Nat:=3988292384
def cstep(n:Nat):Nat:=if n%2=1 then (n/2)^^^poly else n/2
def csteps:Nat→Nat→Nat
 |0,n=>n
 |k+1,n=>csteps k (cstep n)
def ceight(n:Nat):Nat:=csteps 8 n
def cbyte(n:Nat)(c:UInt8):Nat:=ceight (n^^^c.toNat)
def craw(n:Nat)(l:List UInt8):Nat:=l.foldl cbyte n
def ones:Nat:=4294967295
def cmore(n:Nat)(l:List UInt8):Nat:=craw (n^^^ones) l^^^ones
def csum(l:List UInt8):Nat:=cmore 0 l
def B32:Nat:=4294967296
theorem xor_lt{a b:Nat}(ha:a<B32)(hb:b<B32):a^^^b<B32:=Nat.xor_lt_two_pow (n:=32) ha hb
theorem poly_lt:poly<B32:=by decide
theorem ones_lt:ones<B32:=by decide
theorem cstep_lt{n:Nat}(h:n<B32):cstep n<B32:=by
 unfold cstep;have:n/2<B32:=Nat.lt_of_le_of_lt (Nat.div_le_self _ _) h;split
 ·exact xor_lt this poly_lt
 ·exact this
theorem csteps_lt:∀(k:Nat) {n:Nat},n<B32→csteps k n<B32
 |0,_,h=>h
 |k+1,_,h=>csteps_lt k (cstep_lt h)
theorem ceight_lt{n:Nat}(h:n<B32):ceight n<B32:=csteps_lt 8 h
theorem byte_lt(c:UInt8):c.toNat<B32:=Nat.lt_trans c.toNat_lt (by decide)
theorem cbyte_lt{n:Nat}(c:UInt8)(h:n<B32):cbyte n c<B32:=ceight_lt (xor_lt h (byte_lt c))
theorem craw_lt:∀(l:List UInt8) {n:Nat},n<B32→craw n l<B32
 | [],_,h=>h
 |c::l,_,h=>craw_lt l (cbyte_lt c h)
theorem cmore_lt{n:Nat}(l:List UInt8)(h:n<B32):cmore n l<B32:=xor_lt (craw_lt l (xor_lt h ones_lt)) ones_lt
theorem csum_lt(l:List UInt8):csum l<B32:=cmore_lt l (by decide)
theorem csteps_succ:∀(k n:Nat),csteps (k+1) n=cstep (csteps k n)
 |0,_=>rfl
 |k+1,n=>csteps_succ k (cstep n)
theorem xor_half(a b:Nat):(a^^^b)/2=a/2^^^b/2:=by
 have:=Nat.shiftRight_xor_distrib (a:=a) (b:=b) (i:=1)
 simpa [Nat.shiftRight_eq_div_pow] using this
theorem xor_odd(a b:Nat):(a^^^b)%2=(a%2+b%2)%2:=by
 have:=Nat.xor_mod_two_pow (a:=a) (b:=b) (n:=1);simp only[Nat.pow_one] at this;rw[this];rcases Nat.mod_two_eq_zero_or_one a with h|h <;>rcases Nat.mod_two_eq_zero_or_one b with h'|h' <;>rw[h,h']<;>rfl
theorem cstep_xor(a b:Nat):cstep (a^^^b)=cstep a^^^cstep b:=by
 unfold cstep;rw[xor_half,xor_odd];rcases Nat.mod_two_eq_zero_or_one a with h|h <;>rcases Nat.mod_two_eq_zero_or_one b with h'|h' <;>simp[h,h']
 ·rw[Nat.xor_assoc]
 ·rw[Nat.xor_assoc,Nat.xor_assoc,Nat.xor_comm (b/2) poly]
 ·have e:∀x y p:Nat,x^^^p^^^(y^^^p)=x^^^y:=fun x y p=>by
   rw[Nat.xor_comm y p,←Nat.xor_assoc,Nat.xor_assoc x p p,Nat.xor_self,Nat.xor_zero]
  exact(e _ _ _).symm
theorem csteps_xor:∀(k a b:Nat),csteps k (a^^^b)=csteps k a^^^csteps k b
 |0,_,_=>rfl
 |k+1,a,b=>by
  show csteps k (cstep (a^^^b))=_;rw[cstep_xor,csteps_xor k];rfl
theorem ceight_xor(a b:Nat):ceight (a^^^b)=ceight a^^^ceight b:=csteps_xor 8 a b
theorem ceight_zero:ceight 0=0:=by decide
theorem csteps_even:∀(k n:Nat),csteps k (n*2^k)=n
 |0,n=>by simp[csteps]
 |k+1,n=>by
  show csteps k (cstep (n*2^(k+1)))=n;have e:n*2^(k+1)=(n*2^k)*2:=by rw[Nat.pow_succ,Nat.mul_assoc]
  rw[e];unfold cstep;rw[if_neg (by omega),Nat.mul_div_cancel _ (by decide)];exact csteps_even k n
theorem split_low(n:Nat):n=(n%256)^^^(n/256*256):=by
 apply Nat.eq_of_testBit_eq;intro i;rw[Nat.testBit_xor,show(256:Nat)=2^8 from rfl,Nat.testBit_mod_two_pow,Nat.testBit_mul_two_pow,Nat.testBit_div_two_pow];by_cases h:i<8
 ·simp[h,show ¬8≤i from by omega]
 ·simp[h,show 8≤i from by omega,show i-8+8=i from by omega]
theorem ceight_split(n:Nat):ceight n=ceight (n%256)^^^n/256:=by
 conv=>lhs;rw[split_low n]
 rw[ceight_xor]
 congr 1
 exact csteps_even 8 (n/256)
theorem xor_byte_div(n:Nat)(c:UInt8):(n^^^c.toNat)/256=n/256:=by
 have:=Nat.shiftRight_xor_distrib (a:=n) (b:=c.toNat) (i:=8);simp only[Nat.shiftRight_eq_div_pow] at this;rw[show(2:Nat)^8=256 from rfl] at this;rw[this,Nat.div_eq_of_lt c.toNat_lt,Nat.xor_zero]
theorem xor_byte_mod(n:Nat)(c:UInt8):(n^^^c.toNat)%256=(n%256)^^^c.toNat:=by
 have:=Nat.xor_mod_two_pow (a:=n) (b:=c.toNat) (n:=8);rw[show(2:Nat)^8=256 from rfl] at this;rw[this,Nat.mod_eq_of_lt c.toNat_lt]
theorem cbyte_table(n:Nat)(c:UInt8):cbyte n c=ceight ((n%256)^^^c.toNat)^^^n/256:=by
 unfold cbyte;rw[ceight_split,xor_byte_mod,xor_byte_div]
theorem craw_snoc(n:Nat)(a:List UInt8)(c:UInt8):craw n (a++ [c])=cbyte (craw n a) c:=by simp[craw]
def tailL(n:Nat):List UInt8:= [UInt8.ofNat n,UInt8.ofNat (n/256),UInt8.ofNat (n/65536),UInt8.ofNat (n/16777216)]
theorem tailL_length(n:Nat):(tailL n).length=4:=rfl
def sealL(l:List UInt8):List UInt8:=l++tailL (csum l)
theorem sealL_length(l:List UInt8):(sealL l).length=l.length+4:=by unfold sealL;rw[List.length_append,tailL_length]
def rightL(l:List UInt8):Bool:=decide (4≤l.length) && (tailL (csum (l.take (l.length-4)))==l.drop (l.length-4))
theorem rightL_seal(l:List UInt8):rightL (sealL l)=true:=by
 unfold rightL;rw[sealL_length];have h1:(sealL l).take (l.length+4-4)=l:=by unfold sealL;simp
 have h2:(sealL l).drop (l.length+4-4)=tailL (csum l):=by unfold sealL;simp
 rw[h1,h2];simp
theorem rightL_ref(l:List UInt8):rightL l=(decide (4≤l.length) && (sealL (l.take (l.length-4))==l)):=by
 unfold rightL;by_cases h:4≤l.length
 ·simp only[h,decide_true,Bool.true_and]
  rw[Bool.eq_iff_iff];simp only[beq_iff_eq];unfold sealL;constructor
  ·intro e;rw[e];exact List.take_append_drop _ _
  ·intro e
   have h1:=congrArg (List.drop (l.length-4)) e;rw[List.drop_left' (by simp)] at h1;exact h1
 ·simp[h]
end Go.Crc
