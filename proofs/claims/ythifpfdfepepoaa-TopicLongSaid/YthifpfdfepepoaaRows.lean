/-
  No cell of these rows narrows 'for every input' (looked for: loops, veiled, ifaces, maps, wideKeys, modest, calm, conditions, laid).
  DERIVED. THE GIVEN ROWS OF THIS SEAT. 6 by the template 'for every input the law returns true; each argument reads behind the call as it read before'; 0 by the template 'total and deterministic' (their statements: YthifpfdfepepoaaTotals.lean).
  GIVEN WITH THE SEED: the statements are not yours to turn. If you find one false, say at which input.
  Laid BY PROGRAM, IN A SANDBOX (cutbox-rows.mjs): the forced cells as the released guide's own fill.sh prints them over the translation 9b80801942a343d9… (all of the seat's roots in one cut). By AI agents, Wed Nov 11 2026. No macro, syntax, notation, axiom, sorry.
-/
import Derived.Test.YthifpfdfepepoaaChecked
import GoSem.Claim
import GoSem.ClaimJoined
import GoSem.ClaimMapViews
import Derived.JoinedTies
import Derived.KernelRfl
namespace Go.Proofs.Ythifpfdfepepoaa
/- THE CELL 'sum', in the pinned program and in every row, IS THE sha256 OF THE DUMP (.gsa) THAT YthifpfdfepepoaaProg.lean LOADS. Nothing in Lean hashes anything: it is a label: what it is worth is what the hold of that sum in a sandbox is worth. -/
noncomputable def Try.pinned : Pinned := { name := "ythifpfdfepepoaa", sum := "9b80801942a343d9f1c63ab08da2136e2dd66fc058e85efed6b34702518e87ae", checked := Try.checked }
namespace Rows
def none {H : Type} : Left H := { results := [], args := [] }

/-- 'roadsteadlaw09.TopicParts': WHATEVER THE INPUT: true; the input reads as it did. -/
def topicPartsSpec : ChangeSpec := { name := "topicParts", fn := fun _ => fun
  | [d1, d2, d3] => { results := [.lit (.bool true)], args := [d1, d2, d3] }
  | _ => none }
def topicPartsRow : OpenClaim := { program := "ythifpfdfepepoaa", sum := "9b80801942a343d9f1c63ab08da2136e2dd66fc058e85efed6b34702518e87ae", func := "roadstead/roadsteadlaw09.TopicParts", spec := "topicParts", inPlace := ["internal/bytealg.IndexByteString", "internal/bytealg.IndexString"], unfollowed := true, recurses := true, named := ["internal/bytealg.MaxLen"], apart := false }
def TopicPartsSaid : Prop := topicPartsRow.holds Try.pinned (OpenSpec.ofChange topicPartsSpec)

/-- ITS FALSE NEIGHBOUR: 'it returns false'. Refute it at one input. -/
def topicPartsWrong : ChangeSpec := { name := "topicParts", fn := fun _ => fun
  | [d1, d2, d3] => { results := [.lit (.bool false)], args := [d1, d2, d3] }
  | _ => none }
def TopicPartsWrongFalsely : Prop := topicPartsRow.holds Try.pinned (OpenSpec.ofChange topicPartsWrong)

/-- 'roadsteadlaw09.TopicMatches': WHATEVER THE INPUT: true; the input reads as it did. -/
def topicMatchesSpec : ChangeSpec := { name := "topicMatches", fn := fun _ => fun
  | [d1, d2, d3, d4] => { results := [.lit (.bool true)], args := [d1, d2, d3, d4] }
  | _ => none }
def topicMatchesRow : OpenClaim := { program := "ythifpfdfepepoaa", sum := "9b80801942a343d9f1c63ab08da2136e2dd66fc058e85efed6b34702518e87ae", func := "roadstead/roadsteadlaw09.TopicMatches", spec := "topicMatches", inPlace := ["internal/bytealg.IndexByteString", "internal/bytealg.IndexString"], unfollowed := true, recurses := true, named := ["internal/bytealg.MaxLen"], apart := false }
def TopicMatchesSaid : Prop := topicMatchesRow.holds Try.pinned (OpenSpec.ofChange topicMatchesSpec)

/-- ITS FALSE NEIGHBOUR: 'it returns false'. Refute it at one input. -/
def topicMatchesWrong : ChangeSpec := { name := "topicMatches", fn := fun _ => fun
  | [d1, d2, d3, d4] => { results := [.lit (.bool false)], args := [d1, d2, d3, d4] }
  | _ => none }
def TopicMatchesWrongFalsely : Prop := topicMatchesRow.holds Try.pinned (OpenSpec.ofChange topicMatchesWrong)

/-- 'roadsteadlaw09.TopicWants': WHATEVER THE INPUT: true; the input reads as it did. -/
def topicWantsSpec : ChangeSpec := { name := "topicWants", fn := fun _ => fun
  | [d1, d2, d3, d4] => { results := [.lit (.bool true)], args := [d1, d2, d3, d4] }
  | _ => none }
def topicWantsRow : OpenClaim := { program := "ythifpfdfepepoaa", sum := "9b80801942a343d9f1c63ab08da2136e2dd66fc058e85efed6b34702518e87ae", func := "roadstead/roadsteadlaw09.TopicWants", spec := "topicWants", inPlace := ["internal/bytealg.IndexByteString", "internal/bytealg.IndexString"], unfollowed := true, recurses := true, named := ["internal/bytealg.MaxLen"], apart := false }
def TopicWantsSaid : Prop := topicWantsRow.holds Try.pinned (OpenSpec.ofChange topicWantsSpec)

/-- ITS FALSE NEIGHBOUR: 'it returns false'. Refute it at one input. -/
def topicWantsWrong : ChangeSpec := { name := "topicWants", fn := fun _ => fun
  | [d1, d2, d3, d4] => { results := [.lit (.bool false)], args := [d1, d2, d3, d4] }
  | _ => none }
def TopicWantsWrongFalsely : Prop := topicWantsRow.holds Try.pinned (OpenSpec.ofChange topicWantsWrong)

/-- 'roadsteadlaw09.TopicOwn': WHATEVER THE INPUT: true; the input reads as it did. -/
def topicOwnSpec : ChangeSpec := { name := "topicOwn", fn := fun _ => fun
  | [d1, d2] => { results := [.lit (.bool true)], args := [d1, d2] }
  | _ => none }
def topicOwnRow : OpenClaim := { program := "ythifpfdfepepoaa", sum := "9b80801942a343d9f1c63ab08da2136e2dd66fc058e85efed6b34702518e87ae", func := "roadstead/roadsteadlaw09.TopicOwn", spec := "topicOwn", inPlace := ["internal/bytealg.IndexByteString", "internal/bytealg.IndexString"], unfollowed := true, recurses := true, named := ["internal/bytealg.MaxLen"], apart := false }
def TopicOwnSaid : Prop := topicOwnRow.holds Try.pinned (OpenSpec.ofChange topicOwnSpec)

/-- ITS FALSE NEIGHBOUR: 'it returns false'. Refute it at one input. -/
def topicOwnWrong : ChangeSpec := { name := "topicOwn", fn := fun _ => fun
  | [d1, d2] => { results := [.lit (.bool false)], args := [d1, d2] }
  | _ => none }
def TopicOwnWrongFalsely : Prop := topicOwnRow.holds Try.pinned (OpenSpec.ofChange topicOwnWrong)

/-- 'roadsteadlaw09.TopicLess': WHATEVER THE INPUT: true; the input reads as it did. -/
def topicLessSpec : ChangeSpec := { name := "topicLess", fn := fun _ => fun
  | [d1, d2] => { results := [.lit (.bool true)], args := [d1, d2] }
  | _ => none }
def topicLessRow : OpenClaim := { program := "ythifpfdfepepoaa", sum := "9b80801942a343d9f1c63ab08da2136e2dd66fc058e85efed6b34702518e87ae", func := "roadstead/roadsteadlaw09.TopicLess", spec := "topicLess", inPlace := ["internal/bytealg.IndexByteString", "internal/bytealg.IndexString"], unfollowed := true, recurses := true, named := ["internal/bytealg.MaxLen"], apart := false }
def TopicLessSaid : Prop := topicLessRow.holds Try.pinned (OpenSpec.ofChange topicLessSpec)

/-- ITS FALSE NEIGHBOUR: 'it returns false'. Refute it at one input. -/
def topicLessWrong : ChangeSpec := { name := "topicLess", fn := fun _ => fun
  | [d1, d2] => { results := [.lit (.bool false)], args := [d1, d2] }
  | _ => none }
def TopicLessWrongFalsely : Prop := topicLessRow.holds Try.pinned (OpenSpec.ofChange topicLessWrong)

/-- 'roadsteadlaw09.TopicLong': WHATEVER THE INPUT: true; the input reads as it did. -/
def topicLongSpec : ChangeSpec := { name := "topicLong", fn := fun _ => fun
  | [d] => { results := [.lit (.bool true)], args := [d] }
  | _ => none }
def topicLongRow : OpenClaim := { program := "ythifpfdfepepoaa", sum := "9b80801942a343d9f1c63ab08da2136e2dd66fc058e85efed6b34702518e87ae", func := "roadstead/roadsteadlaw09.TopicLong", spec := "topicLong", inPlace := ["internal/bytealg.IndexByteString", "internal/bytealg.IndexString"], unfollowed := true, recurses := true, named := ["internal/bytealg.MaxLen"], apart := false }
def TopicLongSaid : Prop := topicLongRow.holds Try.pinned (OpenSpec.ofChange topicLongSpec)

/-- ITS FALSE NEIGHBOUR: 'it returns false'. Refute it at one input. -/
def topicLongWrong : ChangeSpec := { name := "topicLong", fn := fun _ => fun
  | [d] => { results := [.lit (.bool false)], args := [d] }
  | _ => none }
def TopicLongWrongFalsely : Prop := topicLongRow.holds Try.pinned (OpenSpec.ofChange topicLongWrong)

/- THE SECOND FORM. 'bulk': how many values and letters a reading holds, each counted each time it is reached (what is shared counts as often as it is met; a slice's spare places count too). A statement '..UptoSaid' is the law's where the arguments, and the package variables that the reading takes, are together of bulk at most 1048576: NARROWER than '..Said'. Prove '..Said' where nothing that the law and all that it calls make is longer than what came in: it says more and counts as full. Else prove '..UptoSaid'. A law counts once. -/
mutual
def uptoBulk {H : Type} : DataW H → Nat
  | .lit (.string bytes) => bytes.length + 1
  | .lit _ => 1
  | .nil => 1
  | .ptr d => uptoBulk d + 1
  | .slice elems spare => uptoBulkAll elems + uptoBulkAll spare + 1
  | .agg parts => uptoBulkAll parts + 1
  | .iface _ d => uptoBulk d + 1
  | .map entries => uptoBulkEntries entries + 1
  | .held _ => 1
def uptoBulkAll {H : Type} : List (DataW H) → Nat
  | [] => 0
  | d :: r => uptoBulk d + uptoBulkAll r
def uptoBulkEntries {H : Type} : List (Lit × DataW H) → Nat
  | [] => 0
  | x :: r => uptoBulkEntry x + uptoBulkEntries r
def uptoBulkEntry {H : Type} : Lit × DataW H → Nat
  | (.string bytes, d) => bytes.length + uptoBulk d + 1
  | (_, d) => uptoBulk d + 1
 end
def uptoSmall : (H : Type) → List (DataW H) → Bool := fun _ ds => decide (uptoBulkAll ds ≤ 1048576)
def OpenSpec.upto (s : _root_.Go.ChangeSpec) : _root_.Go.OpenSpec := { _root_.Go.OpenSpec.ofChange s with cond := some uptoSmall }

/-- 'roadsteadlaw09.TopicParts', WHERE WHAT IT READS IS OF BULK AT MOST 1048576: true; the input reads as it did. -/
def topicPartsUptoRow : OpenClaim := { program := "ythifpfdfepepoaa", sum := "9b80801942a343d9f1c63ab08da2136e2dd66fc058e85efed6b34702518e87ae", func := "roadstead/roadsteadlaw09.TopicParts", spec := "topicParts", inPlace := ["internal/bytealg.IndexByteString", "internal/bytealg.IndexString"], unfollowed := true, recurses := true, named := ["internal/bytealg.MaxLen"], apart := false, narrowed := true }
def TopicPartsUptoSaid : Prop := topicPartsUptoRow.holds Try.pinned (OpenSpec.upto topicPartsSpec)

/-- 'roadsteadlaw09.TopicMatches', WHERE WHAT IT READS IS OF BULK AT MOST 1048576: true; the input reads as it did. -/
def topicMatchesUptoRow : OpenClaim := { program := "ythifpfdfepepoaa", sum := "9b80801942a343d9f1c63ab08da2136e2dd66fc058e85efed6b34702518e87ae", func := "roadstead/roadsteadlaw09.TopicMatches", spec := "topicMatches", inPlace := ["internal/bytealg.IndexByteString", "internal/bytealg.IndexString"], unfollowed := true, recurses := true, named := ["internal/bytealg.MaxLen"], apart := false, narrowed := true }
def TopicMatchesUptoSaid : Prop := topicMatchesUptoRow.holds Try.pinned (OpenSpec.upto topicMatchesSpec)

/-- 'roadsteadlaw09.TopicWants', WHERE WHAT IT READS IS OF BULK AT MOST 1048576: true; the input reads as it did. -/
def topicWantsUptoRow : OpenClaim := { program := "ythifpfdfepepoaa", sum := "9b80801942a343d9f1c63ab08da2136e2dd66fc058e85efed6b34702518e87ae", func := "roadstead/roadsteadlaw09.TopicWants", spec := "topicWants", inPlace := ["internal/bytealg.IndexByteString", "internal/bytealg.IndexString"], unfollowed := true, recurses := true, named := ["internal/bytealg.MaxLen"], apart := false, narrowed := true }
def TopicWantsUptoSaid : Prop := topicWantsUptoRow.holds Try.pinned (OpenSpec.upto topicWantsSpec)

/-- 'roadsteadlaw09.TopicOwn', WHERE WHAT IT READS IS OF BULK AT MOST 1048576: true; the input reads as it did. -/
def topicOwnUptoRow : OpenClaim := { program := "ythifpfdfepepoaa", sum := "9b80801942a343d9f1c63ab08da2136e2dd66fc058e85efed6b34702518e87ae", func := "roadstead/roadsteadlaw09.TopicOwn", spec := "topicOwn", inPlace := ["internal/bytealg.IndexByteString", "internal/bytealg.IndexString"], unfollowed := true, recurses := true, named := ["internal/bytealg.MaxLen"], apart := false, narrowed := true }
def TopicOwnUptoSaid : Prop := topicOwnUptoRow.holds Try.pinned (OpenSpec.upto topicOwnSpec)

/-- 'roadsteadlaw09.TopicLess', WHERE WHAT IT READS IS OF BULK AT MOST 1048576: true; the input reads as it did. -/
def topicLessUptoRow : OpenClaim := { program := "ythifpfdfepepoaa", sum := "9b80801942a343d9f1c63ab08da2136e2dd66fc058e85efed6b34702518e87ae", func := "roadstead/roadsteadlaw09.TopicLess", spec := "topicLess", inPlace := ["internal/bytealg.IndexByteString", "internal/bytealg.IndexString"], unfollowed := true, recurses := true, named := ["internal/bytealg.MaxLen"], apart := false, narrowed := true }
def TopicLessUptoSaid : Prop := topicLessUptoRow.holds Try.pinned (OpenSpec.upto topicLessSpec)

/-- 'roadsteadlaw09.TopicLong', WHERE WHAT IT READS IS OF BULK AT MOST 1048576: true; the input reads as it did. -/
def topicLongUptoRow : OpenClaim := { program := "ythifpfdfepepoaa", sum := "9b80801942a343d9f1c63ab08da2136e2dd66fc058e85efed6b34702518e87ae", func := "roadstead/roadsteadlaw09.TopicLong", spec := "topicLong", inPlace := ["internal/bytealg.IndexByteString", "internal/bytealg.IndexString"], unfollowed := true, recurses := true, named := ["internal/bytealg.MaxLen"], apart := false, narrowed := true }
def TopicLongUptoSaid : Prop := topicLongUptoRow.holds Try.pinned (OpenSpec.upto topicLongSpec)

end Rows
end Go.Proofs.Ythifpfdfepepoaa
