/-
  No cell of these rows narrows 'for every input' (looked for: loops, veiled, ifaces, maps, wideKeys, modest, calm, conditions, laid).
  DERIVED. THE GIVEN ROWS OF THIS SEAT. 11 by the template 'for every input the law returns true; each argument reads behind the call as it read before'; 0 by the template 'total and deterministic' (their statements: YtodckdkbheapfaaGreatTotals.lean).
  GIVEN WITH THE SEED: the statements are not yours to turn. If you find one false, say at which input.
  Laid BY PROGRAM, IN A SANDBOX (cutbox-rows.mjs): the forced cells as the released guide's own fill.sh prints them over the translation ae04b50dad1481b9… (all of the seat's roots in one cut). By AI agents, Wed Nov 11 2026. No macro, syntax, notation, axiom, sorry.
-/
import Derived.Test.YtodckdkbheapfaaGreatChecked
import GoSem.Claim
import GoSem.ClaimJoined
import GoSem.ClaimMapViews
import Derived.JoinedTies
import Derived.KernelRfl
namespace Go.Proofs.YtodckdkbheapfaaGreat
/- THE CELL 'sum', in the pinned program and in every row, IS THE sha256 OF THE DUMP (.gsa) THAT YtodckdkbheapfaaGreatProg.lean LOADS. Nothing in Lean hashes anything: it is a label: what it is worth is what the hold of that sum in a sandbox is worth. -/
noncomputable def Tryz.pinned : Pinned := { name := "ytodckdkbheapfaagreat", sum := "ae04b50dad1481b9c6ff95457231fc270e105abeac163d347a8c64f2abdf4637", checked := Tryz.checked }
namespace Rows
def none {H : Type} : Left H := { results := [], args := [] }

/-- 'roadsteadlaw11.ModelNone': WHATEVER THE INPUT: true; the input reads as it did. -/
def modelNoneSpec : ChangeSpec := { name := "modelNone", fn := fun _ => fun
  | [d1, d2, d3] => { results := [.lit (.bool true)], args := [d1, d2, d3] }
  | _ => none }
def modelNoneRow : OpenClaim := { program := "ytodckdkbheapfaagreat", sum := "ae04b50dad1481b9c6ff95457231fc270e105abeac163d347a8c64f2abdf4637", func := "roadstead/roadsteadlaw11.ModelNone", spec := "modelNone", inPlace := ["internal/bytealg.IndexByteString", "internal/bytealg.IndexString", "slices.overlaps[roadstead/api.Sub]"], unfollowed := true, recurses := true, named := ["internal/bytealg.MaxLen"], apart := false }
def ModelNoneSaid : Prop := modelNoneRow.holds Tryz.pinned (OpenSpec.ofChange modelNoneSpec)

/-- ITS FALSE NEIGHBOUR: 'it returns false'. Refute it at one input. -/
def modelNoneWrong : ChangeSpec := { name := "modelNone", fn := fun _ => fun
  | [d1, d2, d3] => { results := [.lit (.bool false)], args := [d1, d2, d3] }
  | _ => none }
def ModelNoneWrongFalsely : Prop := modelNoneRow.holds Tryz.pinned (OpenSpec.ofChange modelNoneWrong)

/-- 'roadsteadlaw11.ModelAcks': WHATEVER THE INPUT: true; the input reads as it did. -/
def modelAcksSpec : ChangeSpec := { name := "modelAcks", fn := fun _ => fun
  | [d1, d2] => { results := [.lit (.bool true)], args := [d1, d2] }
  | _ => none }
def modelAcksRow : OpenClaim := { program := "ytodckdkbheapfaagreat", sum := "ae04b50dad1481b9c6ff95457231fc270e105abeac163d347a8c64f2abdf4637", func := "roadstead/roadsteadlaw11.ModelAcks", spec := "modelAcks", inPlace := ["internal/bytealg.IndexByteString", "internal/bytealg.IndexString", "slices.overlaps[roadstead/api.Sub]"], unfollowed := true, recurses := true, named := ["internal/bytealg.MaxLen"], apart := false }
def ModelAcksSaid : Prop := modelAcksRow.holds Tryz.pinned (OpenSpec.ofChange modelAcksSpec)

/-- ITS FALSE NEIGHBOUR: 'it returns false'. Refute it at one input. -/
def modelAcksWrong : ChangeSpec := { name := "modelAcks", fn := fun _ => fun
  | [d1, d2] => { results := [.lit (.bool false)], args := [d1, d2] }
  | _ => none }
def ModelAcksWrongFalsely : Prop := modelAcksRow.holds Tryz.pinned (OpenSpec.ofChange modelAcksWrong)

/-- 'roadsteadlaw11.ModelQuota': WHATEVER THE INPUT: true; the input reads as it did. -/
def modelQuotaSpec : ChangeSpec := { name := "modelQuota", fn := fun _ => fun
  | [d1, d2] => { results := [.lit (.bool true)], args := [d1, d2] }
  | _ => none }
def modelQuotaRow : OpenClaim := { program := "ytodckdkbheapfaagreat", sum := "ae04b50dad1481b9c6ff95457231fc270e105abeac163d347a8c64f2abdf4637", func := "roadstead/roadsteadlaw11.ModelQuota", spec := "modelQuota", inPlace := ["internal/bytealg.IndexByteString", "internal/bytealg.IndexString", "slices.overlaps[roadstead/api.Sub]"], unfollowed := true, recurses := true, named := ["internal/bytealg.MaxLen"], apart := false }
def ModelQuotaSaid : Prop := modelQuotaRow.holds Tryz.pinned (OpenSpec.ofChange modelQuotaSpec)

/-- ITS FALSE NEIGHBOUR: 'it returns false'. Refute it at one input. -/
def modelQuotaWrong : ChangeSpec := { name := "modelQuota", fn := fun _ => fun
  | [d1, d2] => { results := [.lit (.bool false)], args := [d1, d2] }
  | _ => none }
def ModelQuotaWrongFalsely : Prop := modelQuotaRow.holds Tryz.pinned (OpenSpec.ofChange modelQuotaWrong)

/-- 'roadsteadlaw11.ModelDoes': WHATEVER THE INPUT: true; the input reads as it did. -/
def modelDoesSpec : ChangeSpec := { name := "modelDoes", fn := fun _ => fun
  | [d1, d2, d3] => { results := [.lit (.bool true)], args := [d1, d2, d3] }
  | _ => none }
def modelDoesRow : OpenClaim := { program := "ytodckdkbheapfaagreat", sum := "ae04b50dad1481b9c6ff95457231fc270e105abeac163d347a8c64f2abdf4637", func := "roadstead/roadsteadlaw11.ModelDoes", spec := "modelDoes", inPlace := ["internal/bytealg.IndexByteString", "internal/bytealg.IndexString", "slices.overlaps[roadstead/api.Sub]"], unfollowed := true, recurses := true, named := ["internal/bytealg.MaxLen"], apart := false }
def ModelDoesSaid : Prop := modelDoesRow.holds Tryz.pinned (OpenSpec.ofChange modelDoesSpec)

/-- ITS FALSE NEIGHBOUR: 'it returns false'. Refute it at one input. -/
def modelDoesWrong : ChangeSpec := { name := "modelDoes", fn := fun _ => fun
  | [d1, d2, d3] => { results := [.lit (.bool false)], args := [d1, d2, d3] }
  | _ => none }
def ModelDoesWrongFalsely : Prop := modelDoesRow.holds Tryz.pinned (OpenSpec.ofChange modelDoesWrong)

/-- 'roadsteadlaw11.ModelRuns': WHATEVER THE INPUT: true; the input reads as it did. -/
def modelRunsSpec : ChangeSpec := { name := "modelRuns", fn := fun _ => fun
  | [d] => { results := [.lit (.bool true)], args := [d] }
  | _ => none }
def modelRunsRow : OpenClaim := { program := "ytodckdkbheapfaagreat", sum := "ae04b50dad1481b9c6ff95457231fc270e105abeac163d347a8c64f2abdf4637", func := "roadstead/roadsteadlaw11.ModelRuns", spec := "modelRuns", inPlace := ["internal/bytealg.IndexByteString", "internal/bytealg.IndexString", "slices.overlaps[roadstead/api.Sub]"], unfollowed := true, recurses := true, named := ["internal/bytealg.MaxLen"], apart := false }
def ModelRunsSaid : Prop := modelRunsRow.holds Tryz.pinned (OpenSpec.ofChange modelRunsSpec)

/-- ITS FALSE NEIGHBOUR: 'it returns false'. Refute it at one input. -/
def modelRunsWrong : ChangeSpec := { name := "modelRuns", fn := fun _ => fun
  | [d] => { results := [.lit (.bool false)], args := [d] }
  | _ => none }
def ModelRunsWrongFalsely : Prop := modelRunsRow.holds Tryz.pinned (OpenSpec.ofChange modelRunsWrong)

/-- 'roadsteadlaw11.ModelRight': WHATEVER THE INPUT: true; the input reads as it did. -/
def modelRightSpec : ChangeSpec := { name := "modelRight", fn := fun _ => fun
  | [d1, d2, d3] => { results := [.lit (.bool true)], args := [d1, d2, d3] }
  | _ => none }
def modelRightRow : OpenClaim := { program := "ytodckdkbheapfaagreat", sum := "ae04b50dad1481b9c6ff95457231fc270e105abeac163d347a8c64f2abdf4637", func := "roadstead/roadsteadlaw11.ModelRight", spec := "modelRight", inPlace := ["internal/bytealg.IndexByteString", "internal/bytealg.IndexString", "slices.overlaps[roadstead/api.Sub]"], unfollowed := true, recurses := true, named := ["internal/bytealg.MaxLen"], apart := false }
def ModelRightSaid : Prop := modelRightRow.holds Tryz.pinned (OpenSpec.ofChange modelRightSpec)

/-- ITS FALSE NEIGHBOUR: 'it returns false'. Refute it at one input. -/
def modelRightWrong : ChangeSpec := { name := "modelRight", fn := fun _ => fun
  | [d1, d2, d3] => { results := [.lit (.bool false)], args := [d1, d2, d3] }
  | _ => none }
def ModelRightWrongFalsely : Prop := modelRightRow.holds Tryz.pinned (OpenSpec.ofChange modelRightWrong)

/-- 'roadsteadlaw11.ModelOnce': WHATEVER THE INPUT: true; the input reads as it did. -/
def modelOnceSpec : ChangeSpec := { name := "modelOnce", fn := fun _ => fun
  | [d1, d2] => { results := [.lit (.bool true)], args := [d1, d2] }
  | _ => none }
def modelOnceRow : OpenClaim := { program := "ytodckdkbheapfaagreat", sum := "ae04b50dad1481b9c6ff95457231fc270e105abeac163d347a8c64f2abdf4637", func := "roadstead/roadsteadlaw11.ModelOnce", spec := "modelOnce", inPlace := ["internal/bytealg.IndexByteString", "internal/bytealg.IndexString", "slices.overlaps[roadstead/api.Sub]"], unfollowed := true, recurses := true, named := ["internal/bytealg.MaxLen"], apart := false }
def ModelOnceSaid : Prop := modelOnceRow.holds Tryz.pinned (OpenSpec.ofChange modelOnceSpec)

/-- ITS FALSE NEIGHBOUR: 'it returns false'. Refute it at one input. -/
def modelOnceWrong : ChangeSpec := { name := "modelOnce", fn := fun _ => fun
  | [d1, d2] => { results := [.lit (.bool false)], args := [d1, d2] }
  | _ => none }
def ModelOnceWrongFalsely : Prop := modelOnceRow.holds Tryz.pinned (OpenSpec.ofChange modelOnceWrong)

/-- 'roadsteadlaw11.ModelLeases': WHATEVER THE INPUT: true; the input reads as it did. -/
def modelLeasesSpec : ChangeSpec := { name := "modelLeases", fn := fun _ => fun
  | [d1, d2] => { results := [.lit (.bool true)], args := [d1, d2] }
  | _ => none }
def modelLeasesRow : OpenClaim := { program := "ytodckdkbheapfaagreat", sum := "ae04b50dad1481b9c6ff95457231fc270e105abeac163d347a8c64f2abdf4637", func := "roadstead/roadsteadlaw11.ModelLeases", spec := "modelLeases", inPlace := ["internal/bytealg.IndexByteString", "internal/bytealg.IndexString", "slices.overlaps[roadstead/api.Sub]"], unfollowed := true, recurses := true, named := ["internal/bytealg.MaxLen"], apart := false }
def ModelLeasesSaid : Prop := modelLeasesRow.holds Tryz.pinned (OpenSpec.ofChange modelLeasesSpec)

/-- ITS FALSE NEIGHBOUR: 'it returns false'. Refute it at one input. -/
def modelLeasesWrong : ChangeSpec := { name := "modelLeases", fn := fun _ => fun
  | [d1, d2] => { results := [.lit (.bool false)], args := [d1, d2] }
  | _ => none }
def ModelLeasesWrongFalsely : Prop := modelLeasesRow.holds Tryz.pinned (OpenSpec.ofChange modelLeasesWrong)

/-- 'roadsteadlaw11.ModelOrder': WHATEVER THE INPUT: true; the input reads as it did. -/
def modelOrderSpec : ChangeSpec := { name := "modelOrder", fn := fun _ => fun
  | [d1, d2] => { results := [.lit (.bool true)], args := [d1, d2] }
  | _ => none }
def modelOrderRow : OpenClaim := { program := "ytodckdkbheapfaagreat", sum := "ae04b50dad1481b9c6ff95457231fc270e105abeac163d347a8c64f2abdf4637", func := "roadstead/roadsteadlaw11.ModelOrder", spec := "modelOrder", inPlace := ["internal/bytealg.IndexByteString", "internal/bytealg.IndexString", "slices.overlaps[roadstead/api.Sub]"], unfollowed := true, recurses := true, named := ["internal/bytealg.MaxLen"], apart := false }
def ModelOrderSaid : Prop := modelOrderRow.holds Tryz.pinned (OpenSpec.ofChange modelOrderSpec)

/-- ITS FALSE NEIGHBOUR: 'it returns false'. Refute it at one input. -/
def modelOrderWrong : ChangeSpec := { name := "modelOrder", fn := fun _ => fun
  | [d1, d2] => { results := [.lit (.bool false)], args := [d1, d2] }
  | _ => none }
def ModelOrderWrongFalsely : Prop := modelOrderRow.holds Tryz.pinned (OpenSpec.ofChange modelOrderWrong)

/-- 'roadsteadlaw11.ModelTicks': WHATEVER THE INPUT: true; the input reads as it did. -/
def modelTicksSpec : ChangeSpec := { name := "modelTicks", fn := fun _ => fun
  | [d1, d2, d3] => { results := [.lit (.bool true)], args := [d1, d2, d3] }
  | _ => none }
def modelTicksRow : OpenClaim := { program := "ytodckdkbheapfaagreat", sum := "ae04b50dad1481b9c6ff95457231fc270e105abeac163d347a8c64f2abdf4637", func := "roadstead/roadsteadlaw11.ModelTicks", spec := "modelTicks", inPlace := ["internal/bytealg.IndexByteString", "internal/bytealg.IndexString", "slices.overlaps[roadstead/api.Sub]"], unfollowed := true, recurses := true, named := ["internal/bytealg.MaxLen"], apart := false }
def ModelTicksSaid : Prop := modelTicksRow.holds Tryz.pinned (OpenSpec.ofChange modelTicksSpec)

/-- ITS FALSE NEIGHBOUR: 'it returns false'. Refute it at one input. -/
def modelTicksWrong : ChangeSpec := { name := "modelTicks", fn := fun _ => fun
  | [d1, d2, d3] => { results := [.lit (.bool false)], args := [d1, d2, d3] }
  | _ => none }
def ModelTicksWrongFalsely : Prop := modelTicksRow.holds Tryz.pinned (OpenSpec.ofChange modelTicksWrong)

/-- 'roadsteadlaw11.ModelNotes': WHATEVER THE INPUT: true; the input reads as it did. -/
def modelNotesSpec : ChangeSpec := { name := "modelNotes", fn := fun _ => fun
  | [d1, d2, d3] => { results := [.lit (.bool true)], args := [d1, d2, d3] }
  | _ => none }
def modelNotesRow : OpenClaim := { program := "ytodckdkbheapfaagreat", sum := "ae04b50dad1481b9c6ff95457231fc270e105abeac163d347a8c64f2abdf4637", func := "roadstead/roadsteadlaw11.ModelNotes", spec := "modelNotes", inPlace := ["internal/bytealg.IndexByteString", "internal/bytealg.IndexString", "slices.overlaps[roadstead/api.Sub]"], unfollowed := true, recurses := true, named := ["internal/bytealg.MaxLen"], apart := false }
def ModelNotesSaid : Prop := modelNotesRow.holds Tryz.pinned (OpenSpec.ofChange modelNotesSpec)

/-- ITS FALSE NEIGHBOUR: 'it returns false'. Refute it at one input. -/
def modelNotesWrong : ChangeSpec := { name := "modelNotes", fn := fun _ => fun
  | [d1, d2, d3] => { results := [.lit (.bool false)], args := [d1, d2, d3] }
  | _ => none }
def ModelNotesWrongFalsely : Prop := modelNotesRow.holds Tryz.pinned (OpenSpec.ofChange modelNotesWrong)

/- THE SECOND FORM. 'bulk': how many values and letters a reading holds, each counted each time it is reached (what is shared counts as often as it is met; a slice's spare places count too). A statement '..UptoSaid' is the law's where the arguments, and the package variables that the reading takes, are together of bulk at most 1048576: NARROWER than '..Said'. Prove '..Said' where nothing that the law and all that it calls make is longer than what came in: it says more and counts as full. Else prove '..UptoSaid'. A law counts once. -/
mutual
def uptoBulk {H : Type} : DataW H → Nat
  | .lit (.string bytes) => bytes.length + 1
  | .lit _ => 1
  | .nil => 1
  | .ptr d => uptoBulk d + 1
  | .slice elems spare => uptoBulkAll elems + uptoBulkAll spare + 1
  | .agg parts => uptoBulkAll parts + 1
  | .iface _ d => uptoBulk d + 1
  | .map entries => uptoBulkEntries entries + 1
  | .held _ => 1
def uptoBulkAll {H : Type} : List (DataW H) → Nat
  | [] => 0
  | d :: r => uptoBulk d + uptoBulkAll r
def uptoBulkEntries {H : Type} : List (Lit × DataW H) → Nat
  | [] => 0
  | x :: r => uptoBulkEntry x + uptoBulkEntries r
def uptoBulkEntry {H : Type} : Lit × DataW H → Nat
  | (.string bytes, d) => bytes.length + uptoBulk d + 1
  | (_, d) => uptoBulk d + 1
 end
def uptoSmall : (H : Type) → List (DataW H) → Bool := fun _ ds => decide (uptoBulkAll ds ≤ 1048576)
def OpenSpec.upto (s : _root_.Go.ChangeSpec) : _root_.Go.OpenSpec := { _root_.Go.OpenSpec.ofChange s with cond := some uptoSmall }

/-- 'roadsteadlaw11.ModelNone', WHERE WHAT IT READS IS OF BULK AT MOST 1048576: true; the input reads as it did. -/
def modelNoneUptoRow : OpenClaim := { program := "ytodckdkbheapfaagreat", sum := "ae04b50dad1481b9c6ff95457231fc270e105abeac163d347a8c64f2abdf4637", func := "roadstead/roadsteadlaw11.ModelNone", spec := "modelNone", inPlace := ["internal/bytealg.IndexByteString", "internal/bytealg.IndexString", "slices.overlaps[roadstead/api.Sub]"], unfollowed := true, recurses := true, named := ["internal/bytealg.MaxLen"], apart := false, narrowed := true }
def ModelNoneUptoSaid : Prop := modelNoneUptoRow.holds Tryz.pinned (OpenSpec.upto modelNoneSpec)

/-- 'roadsteadlaw11.ModelAcks', WHERE WHAT IT READS IS OF BULK AT MOST 1048576: true; the input reads as it did. -/
def modelAcksUptoRow : OpenClaim := { program := "ytodckdkbheapfaagreat", sum := "ae04b50dad1481b9c6ff95457231fc270e105abeac163d347a8c64f2abdf4637", func := "roadstead/roadsteadlaw11.ModelAcks", spec := "modelAcks", inPlace := ["internal/bytealg.IndexByteString", "internal/bytealg.IndexString", "slices.overlaps[roadstead/api.Sub]"], unfollowed := true, recurses := true, named := ["internal/bytealg.MaxLen"], apart := false, narrowed := true }
def ModelAcksUptoSaid : Prop := modelAcksUptoRow.holds Tryz.pinned (OpenSpec.upto modelAcksSpec)

/-- 'roadsteadlaw11.ModelQuota', WHERE WHAT IT READS IS OF BULK AT MOST 1048576: true; the input reads as it did. -/
def modelQuotaUptoRow : OpenClaim := { program := "ytodckdkbheapfaagreat", sum := "ae04b50dad1481b9c6ff95457231fc270e105abeac163d347a8c64f2abdf4637", func := "roadstead/roadsteadlaw11.ModelQuota", spec := "modelQuota", inPlace := ["internal/bytealg.IndexByteString", "internal/bytealg.IndexString", "slices.overlaps[roadstead/api.Sub]"], unfollowed := true, recurses := true, named := ["internal/bytealg.MaxLen"], apart := false, narrowed := true }
def ModelQuotaUptoSaid : Prop := modelQuotaUptoRow.holds Tryz.pinned (OpenSpec.upto modelQuotaSpec)

/-- 'roadsteadlaw11.ModelDoes', WHERE WHAT IT READS IS OF BULK AT MOST 1048576: true; the input reads as it did. -/
def modelDoesUptoRow : OpenClaim := { program := "ytodckdkbheapfaagreat", sum := "ae04b50dad1481b9c6ff95457231fc270e105abeac163d347a8c64f2abdf4637", func := "roadstead/roadsteadlaw11.ModelDoes", spec := "modelDoes", inPlace := ["internal/bytealg.IndexByteString", "internal/bytealg.IndexString", "slices.overlaps[roadstead/api.Sub]"], unfollowed := true, recurses := true, named := ["internal/bytealg.MaxLen"], apart := false, narrowed := true }
def ModelDoesUptoSaid : Prop := modelDoesUptoRow.holds Tryz.pinned (OpenSpec.upto modelDoesSpec)

/-- 'roadsteadlaw11.ModelRuns', WHERE WHAT IT READS IS OF BULK AT MOST 1048576: true; the input reads as it did. -/
def modelRunsUptoRow : OpenClaim := { program := "ytodckdkbheapfaagreat", sum := "ae04b50dad1481b9c6ff95457231fc270e105abeac163d347a8c64f2abdf4637", func := "roadstead/roadsteadlaw11.ModelRuns", spec := "modelRuns", inPlace := ["internal/bytealg.IndexByteString", "internal/bytealg.IndexString", "slices.overlaps[roadstead/api.Sub]"], unfollowed := true, recurses := true, named := ["internal/bytealg.MaxLen"], apart := false, narrowed := true }
def ModelRunsUptoSaid : Prop := modelRunsUptoRow.holds Tryz.pinned (OpenSpec.upto modelRunsSpec)

/-- 'roadsteadlaw11.ModelRight', WHERE WHAT IT READS IS OF BULK AT MOST 1048576: true; the input reads as it did. -/
def modelRightUptoRow : OpenClaim := { program := "ytodckdkbheapfaagreat", sum := "ae04b50dad1481b9c6ff95457231fc270e105abeac163d347a8c64f2abdf4637", func := "roadstead/roadsteadlaw11.ModelRight", spec := "modelRight", inPlace := ["internal/bytealg.IndexByteString", "internal/bytealg.IndexString", "slices.overlaps[roadstead/api.Sub]"], unfollowed := true, recurses := true, named := ["internal/bytealg.MaxLen"], apart := false, narrowed := true }
def ModelRightUptoSaid : Prop := modelRightUptoRow.holds Tryz.pinned (OpenSpec.upto modelRightSpec)

/-- 'roadsteadlaw11.ModelOnce', WHERE WHAT IT READS IS OF BULK AT MOST 1048576: true; the input reads as it did. -/
def modelOnceUptoRow : OpenClaim := { program := "ytodckdkbheapfaagreat", sum := "ae04b50dad1481b9c6ff95457231fc270e105abeac163d347a8c64f2abdf4637", func := "roadstead/roadsteadlaw11.ModelOnce", spec := "modelOnce", inPlace := ["internal/bytealg.IndexByteString", "internal/bytealg.IndexString", "slices.overlaps[roadstead/api.Sub]"], unfollowed := true, recurses := true, named := ["internal/bytealg.MaxLen"], apart := false, narrowed := true }
def ModelOnceUptoSaid : Prop := modelOnceUptoRow.holds Tryz.pinned (OpenSpec.upto modelOnceSpec)

/-- 'roadsteadlaw11.ModelLeases', WHERE WHAT IT READS IS OF BULK AT MOST 1048576: true; the input reads as it did. -/
def modelLeasesUptoRow : OpenClaim := { program := "ytodckdkbheapfaagreat", sum := "ae04b50dad1481b9c6ff95457231fc270e105abeac163d347a8c64f2abdf4637", func := "roadstead/roadsteadlaw11.ModelLeases", spec := "modelLeases", inPlace := ["internal/bytealg.IndexByteString", "internal/bytealg.IndexString", "slices.overlaps[roadstead/api.Sub]"], unfollowed := true, recurses := true, named := ["internal/bytealg.MaxLen"], apart := false, narrowed := true }
def ModelLeasesUptoSaid : Prop := modelLeasesUptoRow.holds Tryz.pinned (OpenSpec.upto modelLeasesSpec)

/-- 'roadsteadlaw11.ModelOrder', WHERE WHAT IT READS IS OF BULK AT MOST 1048576: true; the input reads as it did. -/
def modelOrderUptoRow : OpenClaim := { program := "ytodckdkbheapfaagreat", sum := "ae04b50dad1481b9c6ff95457231fc270e105abeac163d347a8c64f2abdf4637", func := "roadstead/roadsteadlaw11.ModelOrder", spec := "modelOrder", inPlace := ["internal/bytealg.IndexByteString", "internal/bytealg.IndexString", "slices.overlaps[roadstead/api.Sub]"], unfollowed := true, recurses := true, named := ["internal/bytealg.MaxLen"], apart := false, narrowed := true }
def ModelOrderUptoSaid : Prop := modelOrderUptoRow.holds Tryz.pinned (OpenSpec.upto modelOrderSpec)

/-- 'roadsteadlaw11.ModelTicks', WHERE WHAT IT READS IS OF BULK AT MOST 1048576: true; the input reads as it did. -/
def modelTicksUptoRow : OpenClaim := { program := "ytodckdkbheapfaagreat", sum := "ae04b50dad1481b9c6ff95457231fc270e105abeac163d347a8c64f2abdf4637", func := "roadstead/roadsteadlaw11.ModelTicks", spec := "modelTicks", inPlace := ["internal/bytealg.IndexByteString", "internal/bytealg.IndexString", "slices.overlaps[roadstead/api.Sub]"], unfollowed := true, recurses := true, named := ["internal/bytealg.MaxLen"], apart := false, narrowed := true }
def ModelTicksUptoSaid : Prop := modelTicksUptoRow.holds Tryz.pinned (OpenSpec.upto modelTicksSpec)

/-- 'roadsteadlaw11.ModelNotes', WHERE WHAT IT READS IS OF BULK AT MOST 1048576: true; the input reads as it did. -/
def modelNotesUptoRow : OpenClaim := { program := "ytodckdkbheapfaagreat", sum := "ae04b50dad1481b9c6ff95457231fc270e105abeac163d347a8c64f2abdf4637", func := "roadstead/roadsteadlaw11.ModelNotes", spec := "modelNotes", inPlace := ["internal/bytealg.IndexByteString", "internal/bytealg.IndexString", "slices.overlaps[roadstead/api.Sub]"], unfollowed := true, recurses := true, named := ["internal/bytealg.MaxLen"], apart := false, narrowed := true }
def ModelNotesUptoSaid : Prop := modelNotesUptoRow.holds Tryz.pinned (OpenSpec.upto modelNotesSpec)

end Rows
end Go.Proofs.YtodckdkbheapfaaGreat
