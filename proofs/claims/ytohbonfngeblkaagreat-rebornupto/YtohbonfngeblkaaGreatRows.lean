/-
  No cell of these rows narrows 'for every input' (looked for: loops, veiled, ifaces, maps, wideKeys, modest, calm, conditions, laid).
  DERIVED. THE GIVEN ROWS OF THIS SEAT. 6 by the template 'for every input the law returns true; each argument reads behind the call as it read before'; 0 by the template 'total and deterministic' (their statements: YtohbonfngeblkaaGreatTotals.lean).
  GIVEN WITH THE SEED: the statements are not yours to turn. If you find one false, say at which input.
  Laid BY PROGRAM, IN A SANDBOX (cutbox-rows.mjs): the forced cells as the released guide's own fill.sh prints them over the translation 6566b38a48a043d8… (all of the seat's roots in one cut). By AI agents, Wed Nov 11 2026. No macro, syntax, notation, axiom, sorry.
-/
import Derived.Test.YtohbonfngeblkaaGreatChecked
import GoSem.Claim
import GoSem.ClaimJoined
import GoSem.ClaimMapViews
import Derived.JoinedTies
import Derived.KernelRfl
namespace Go.Proofs.YtohbonfngeblkaaGreat
/- THE CELL 'sum', in the pinned program and in every row, IS THE sha256 OF THE DUMP (.gsa) THAT YtohbonfngeblkaaGreatProg.lean LOADS. Nothing in Lean hashes anything: it is a label: what it is worth is what the hold of that sum in a sandbox is worth. -/
noncomputable def Tryz.pinned : Pinned := { name := "ytohbonfngeblkaagreat", sum := "6566b38a48a043d8848e7e774ee68745f1c324bba639ae9099713753ce0c3d75", checked := Tryz.checked }
namespace Rows
def none {H : Type} : Left H := { results := [], args := [] }

/-- 'poolerkeep.Fair': WHATEVER THE INPUT: true; the input reads as it did. -/
def fairSpec : ChangeSpec := { name := "fair", fn := fun _ => fun
  | [d1, d2] => { results := [.lit (.bool true)], args := [d1, d2] }
  | _ => none }
def fairRow : OpenClaim := { program := "ytohbonfngeblkaagreat", sum := "6566b38a48a043d8848e7e774ee68745f1c324bba639ae9099713753ce0c3d75", func := "pooler/poolerkeep.Fair", spec := "fair", apart := false }
def FairSaid : Prop := fairRow.holds Tryz.pinned (OpenSpec.ofChange fairSpec)

/-- ITS FALSE NEIGHBOUR: 'it returns false'. Refute it at one input. -/
def fairWrong : ChangeSpec := { name := "fair", fn := fun _ => fun
  | [d1, d2] => { results := [.lit (.bool false)], args := [d1, d2] }
  | _ => none }
def FairWrongFalsely : Prop := fairRow.holds Tryz.pinned (OpenSpec.ofChange fairWrong)

/-- 'poolerkeep.Kept': WHATEVER THE INPUT: true; the input reads as it did. -/
def keptSpec : ChangeSpec := { name := "kept", fn := fun _ => fun
  | [d1, d2, d3] => { results := [.lit (.bool true)], args := [d1, d2, d3] }
  | _ => none }
def keptRow : OpenClaim := { program := "ytohbonfngeblkaagreat", sum := "6566b38a48a043d8848e7e774ee68745f1c324bba639ae9099713753ce0c3d75", func := "pooler/poolerkeep.Kept", spec := "kept", apart := false }
def KeptSaid : Prop := keptRow.holds Tryz.pinned (OpenSpec.ofChange keptSpec)

/-- ITS FALSE NEIGHBOUR: 'it returns false'. Refute it at one input. -/
def keptWrong : ChangeSpec := { name := "kept", fn := fun _ => fun
  | [d1, d2, d3] => { results := [.lit (.bool false)], args := [d1, d2, d3] }
  | _ => none }
def KeptWrongFalsely : Prop := keptRow.holds Tryz.pinned (OpenSpec.ofChange keptWrong)

/-- 'poolerkeep.Bounded': WHATEVER THE INPUT: true; the input reads as it did. -/
def boundedSpec : ChangeSpec := { name := "bounded", fn := fun _ => fun
  | [d1, d2, d3] => { results := [.lit (.bool true)], args := [d1, d2, d3] }
  | _ => none }
def boundedRow : OpenClaim := { program := "ytohbonfngeblkaagreat", sum := "6566b38a48a043d8848e7e774ee68745f1c324bba639ae9099713753ce0c3d75", func := "pooler/poolerkeep.Bounded", spec := "bounded", apart := false }
def BoundedSaid : Prop := boundedRow.holds Tryz.pinned (OpenSpec.ofChange boundedSpec)

/-- ITS FALSE NEIGHBOUR: 'it returns false'. Refute it at one input. -/
def boundedWrong : ChangeSpec := { name := "bounded", fn := fun _ => fun
  | [d1, d2, d3] => { results := [.lit (.bool false)], args := [d1, d2, d3] }
  | _ => none }
def BoundedWrongFalsely : Prop := boundedRow.holds Tryz.pinned (OpenSpec.ofChange boundedWrong)

/-- 'poolerkeep.Arrives': WHATEVER THE INPUT: true; the input reads as it did. -/
def arrivesSpec : ChangeSpec := { name := "arrives", fn := fun _ => fun
  | [d1, d2, d3, d4] => { results := [.lit (.bool true)], args := [d1, d2, d3, d4] }
  | _ => none }
def arrivesRow : OpenClaim := { program := "ytohbonfngeblkaagreat", sum := "6566b38a48a043d8848e7e774ee68745f1c324bba639ae9099713753ce0c3d75", func := "pooler/poolerkeep.Arrives", spec := "arrives", apart := false }
def ArrivesSaid : Prop := arrivesRow.holds Tryz.pinned (OpenSpec.ofChange arrivesSpec)

/-- ITS FALSE NEIGHBOUR: 'it returns false'. Refute it at one input. -/
def arrivesWrong : ChangeSpec := { name := "arrives", fn := fun _ => fun
  | [d1, d2, d3, d4] => { results := [.lit (.bool false)], args := [d1, d2, d3, d4] }
  | _ => none }
def ArrivesWrongFalsely : Prop := arrivesRow.holds Tryz.pinned (OpenSpec.ofChange arrivesWrong)

/-- 'poolerkeep.Reborn': WHATEVER THE INPUT: true; the input reads as it did. -/
def rebornSpec : ChangeSpec := { name := "reborn", fn := fun _ => fun
  | [d1, d2, d3, d4, d5] => { results := [.lit (.bool true)], args := [d1, d2, d3, d4, d5] }
  | _ => none }
def rebornRow : OpenClaim := { program := "ytohbonfngeblkaagreat", sum := "6566b38a48a043d8848e7e774ee68745f1c324bba639ae9099713753ce0c3d75", func := "pooler/poolerkeep.Reborn", spec := "reborn", apart := false }
def RebornSaid : Prop := rebornRow.holds Tryz.pinned (OpenSpec.ofChange rebornSpec)

/-- ITS FALSE NEIGHBOUR: 'it returns false'. Refute it at one input. -/
def rebornWrong : ChangeSpec := { name := "reborn", fn := fun _ => fun
  | [d1, d2, d3, d4, d5] => { results := [.lit (.bool false)], args := [d1, d2, d3, d4, d5] }
  | _ => none }
def RebornWrongFalsely : Prop := rebornRow.holds Tryz.pinned (OpenSpec.ofChange rebornWrong)

/-- 'poolerkeep.Reloads': WHATEVER THE INPUT: true; the input reads as it did. -/
def reloadsSpec : ChangeSpec := { name := "reloads", fn := fun _ => fun
  | [d1, d2, d3, d4] => { results := [.lit (.bool true)], args := [d1, d2, d3, d4] }
  | _ => none }
def reloadsRow : OpenClaim := { program := "ytohbonfngeblkaagreat", sum := "6566b38a48a043d8848e7e774ee68745f1c324bba639ae9099713753ce0c3d75", func := "pooler/poolerkeep.Reloads", spec := "reloads", apart := false }
def ReloadsSaid : Prop := reloadsRow.holds Tryz.pinned (OpenSpec.ofChange reloadsSpec)

/-- ITS FALSE NEIGHBOUR: 'it returns false'. Refute it at one input. -/
def reloadsWrong : ChangeSpec := { name := "reloads", fn := fun _ => fun
  | [d1, d2, d3, d4] => { results := [.lit (.bool false)], args := [d1, d2, d3, d4] }
  | _ => none }
def ReloadsWrongFalsely : Prop := reloadsRow.holds Tryz.pinned (OpenSpec.ofChange reloadsWrong)

/- THE SECOND FORM. 'bulk': how many values and letters a reading holds, each counted each time it is reached (what is shared counts as often as it is met; a slice's spare places count too). A statement '..UptoSaid' is the law's where the arguments, and the package variables that the reading takes, are together of bulk at most 1048576: NARROWER than '..Said'. Prove '..Said' where nothing that the law and all that it calls make is longer than what came in: it says more and counts as full. Else prove '..UptoSaid'. A law counts once. -/
mutual
def uptoBulk {H : Type} : DataW H → Nat
  | .lit (.string bytes) => bytes.length + 1
  | .lit _ => 1
  | .nil => 1
  | .ptr d => uptoBulk d + 1
  | .slice elems spare => uptoBulkAll elems + uptoBulkAll spare + 1
  | .agg parts => uptoBulkAll parts + 1
  | .iface _ d => uptoBulk d + 1
  | .map entries => uptoBulkEntries entries + 1
  | .held _ => 1
def uptoBulkAll {H : Type} : List (DataW H) → Nat
  | [] => 0
  | d :: r => uptoBulk d + uptoBulkAll r
def uptoBulkEntries {H : Type} : List (Lit × DataW H) → Nat
  | [] => 0
  | x :: r => uptoBulkEntry x + uptoBulkEntries r
def uptoBulkEntry {H : Type} : Lit × DataW H → Nat
  | (.string bytes, d) => bytes.length + uptoBulk d + 1
  | (_, d) => uptoBulk d + 1
 end
def uptoSmall : (H : Type) → List (DataW H) → Bool := fun _ ds => decide (uptoBulkAll ds ≤ 1048576)
def OpenSpec.upto (s : _root_.Go.ChangeSpec) : _root_.Go.OpenSpec := { _root_.Go.OpenSpec.ofChange s with cond := some uptoSmall }

/-- 'poolerkeep.Fair', WHERE WHAT IT READS IS OF BULK AT MOST 1048576: true; the input reads as it did. -/
def fairUptoRow : OpenClaim := { program := "ytohbonfngeblkaagreat", sum := "6566b38a48a043d8848e7e774ee68745f1c324bba639ae9099713753ce0c3d75", func := "pooler/poolerkeep.Fair", spec := "fair", apart := false, narrowed := true }
def FairUptoSaid : Prop := fairUptoRow.holds Tryz.pinned (OpenSpec.upto fairSpec)

/-- 'poolerkeep.Kept', WHERE WHAT IT READS IS OF BULK AT MOST 1048576: true; the input reads as it did. -/
def keptUptoRow : OpenClaim := { program := "ytohbonfngeblkaagreat", sum := "6566b38a48a043d8848e7e774ee68745f1c324bba639ae9099713753ce0c3d75", func := "pooler/poolerkeep.Kept", spec := "kept", apart := false, narrowed := true }
def KeptUptoSaid : Prop := keptUptoRow.holds Tryz.pinned (OpenSpec.upto keptSpec)

/-- 'poolerkeep.Bounded', WHERE WHAT IT READS IS OF BULK AT MOST 1048576: true; the input reads as it did. -/
def boundedUptoRow : OpenClaim := { program := "ytohbonfngeblkaagreat", sum := "6566b38a48a043d8848e7e774ee68745f1c324bba639ae9099713753ce0c3d75", func := "pooler/poolerkeep.Bounded", spec := "bounded", apart := false, narrowed := true }
def BoundedUptoSaid : Prop := boundedUptoRow.holds Tryz.pinned (OpenSpec.upto boundedSpec)

/-- 'poolerkeep.Arrives', WHERE WHAT IT READS IS OF BULK AT MOST 1048576: true; the input reads as it did. -/
def arrivesUptoRow : OpenClaim := { program := "ytohbonfngeblkaagreat", sum := "6566b38a48a043d8848e7e774ee68745f1c324bba639ae9099713753ce0c3d75", func := "pooler/poolerkeep.Arrives", spec := "arrives", apart := false, narrowed := true }
def ArrivesUptoSaid : Prop := arrivesUptoRow.holds Tryz.pinned (OpenSpec.upto arrivesSpec)

/-- 'poolerkeep.Reborn', WHERE WHAT IT READS IS OF BULK AT MOST 1048576: true; the input reads as it did. -/
def rebornUptoRow : OpenClaim := { program := "ytohbonfngeblkaagreat", sum := "6566b38a48a043d8848e7e774ee68745f1c324bba639ae9099713753ce0c3d75", func := "pooler/poolerkeep.Reborn", spec := "reborn", apart := false, narrowed := true }
def RebornUptoSaid : Prop := rebornUptoRow.holds Tryz.pinned (OpenSpec.upto rebornSpec)

/-- 'poolerkeep.Reloads', WHERE WHAT IT READS IS OF BULK AT MOST 1048576: true; the input reads as it did. -/
def reloadsUptoRow : OpenClaim := { program := "ytohbonfngeblkaagreat", sum := "6566b38a48a043d8848e7e774ee68745f1c324bba639ae9099713753ce0c3d75", func := "pooler/poolerkeep.Reloads", spec := "reloads", apart := false, narrowed := true }
def ReloadsUptoSaid : Prop := reloadsUptoRow.holds Tryz.pinned (OpenSpec.upto reloadsSpec)

end Rows
end Go.Proofs.YtohbonfngeblkaaGreat
