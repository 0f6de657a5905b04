/-
  No cell of these rows narrows 'for every input' (looked for: loops, veiled, ifaces, maps, wideKeys, modest, calm, conditions, laid).
  DERIVED. THE GIVEN ROWS OF THIS SEAT. 7 by the template 'for every input the law returns true; each argument reads behind the call as it read before'; 0 by the template 'total and deterministic' (their statements: YtoodeoglpdapiaaTotals.lean).
  GIVEN WITH THE SEED: the statements are not yours to turn. If you find one false, say at which input.
  Laid BY PROGRAM, IN A SANDBOX (cutbox-rows.mjs): the forced cells as the released guide's own fill.sh prints them over the translation 0a13cf617bb5b8a0… (all of the seat's roots in one cut). By AI agents, Wed Nov 11 2026. No macro, syntax, notation, axiom, sorry.
-/
import Derived.Test.YtoodeoglpdapiaaChecked
import GoSem.Claim
import GoSem.ClaimJoined
import GoSem.ClaimMapViews
import Derived.JoinedTies
import Derived.KernelRfl
namespace Go.Proofs.Ytoodeoglpdapiaa
/- THE CELL 'sum', in the pinned program and in every row, IS THE sha256 OF THE DUMP (.gsa) THAT YtoodeoglpdapiaaProg.lean LOADS. Nothing in Lean hashes anything: it is a label: what it is worth is what the hold of that sum in a sandbox is worth. -/
noncomputable def Try.pinned : Pinned := { name := "ytoodeoglpdapiaa", sum := "0a13cf617bb5b8a0fed1a516c612adb529799b4d67bb7188811b7ffff1fb8c12", checked := Try.checked }
namespace Rows
def none {H : Type} : Left H := { results := [], args := [] }

/-- 'burgagelaw07.ShardMatchesReference': WHATEVER THE INPUT: true; the input reads as it did. -/
def shardMatchesReferenceSpec : ChangeSpec := { name := "shardMatchesReference", fn := fun _ => fun
  | [d1, d2, d3] => { results := [.lit (.bool true)], args := [d1, d2, d3] }
  | _ => none }
def shardMatchesReferenceRow : OpenClaim := { program := "ytoodeoglpdapiaa", sum := "0a13cf617bb5b8a0fed1a516c612adb529799b4d67bb7188811b7ffff1fb8c12", func := "burgage/burgagelaw07.ShardMatchesReference", spec := "shardMatchesReference", unfollowed := true, recurses := true, apart := false }
def ShardMatchesReferenceSaid : Prop := shardMatchesReferenceRow.holds Try.pinned (OpenSpec.ofChange shardMatchesReferenceSpec)

/-- ITS FALSE NEIGHBOUR: 'it returns false'. Refute it at one input. -/
def shardMatchesReferenceWrong : ChangeSpec := { name := "shardMatchesReference", fn := fun _ => fun
  | [d1, d2, d3] => { results := [.lit (.bool false)], args := [d1, d2, d3] }
  | _ => none }
def ShardMatchesReferenceWrongFalsely : Prop := shardMatchesReferenceRow.holds Try.pinned (OpenSpec.ofChange shardMatchesReferenceWrong)

/-- 'burgagelaw07.ShardField': WHATEVER THE INPUT: true; the input reads as it did. -/
def shardFieldSpec : ChangeSpec := { name := "shardField", fn := fun _ => fun
  | [d1, d2, d3] => { results := [.lit (.bool true)], args := [d1, d2, d3] }
  | _ => none }
def shardFieldRow : OpenClaim := { program := "ytoodeoglpdapiaa", sum := "0a13cf617bb5b8a0fed1a516c612adb529799b4d67bb7188811b7ffff1fb8c12", func := "burgage/burgagelaw07.ShardField", spec := "shardField", unfollowed := true, recurses := true, apart := false }
def ShardFieldSaid : Prop := shardFieldRow.holds Try.pinned (OpenSpec.ofChange shardFieldSpec)

/-- ITS FALSE NEIGHBOUR: 'it returns false'. Refute it at one input. -/
def shardFieldWrong : ChangeSpec := { name := "shardField", fn := fun _ => fun
  | [d1, d2, d3] => { results := [.lit (.bool false)], args := [d1, d2, d3] }
  | _ => none }
def ShardFieldWrongFalsely : Prop := shardFieldRow.holds Try.pinned (OpenSpec.ofChange shardFieldWrong)

/-- 'burgagelaw07.ShardDecodes': WHATEVER THE INPUT: true; the input reads as it did. -/
def shardDecodesSpec : ChangeSpec := { name := "shardDecodes", fn := fun _ => fun
  | [d1, d2, d3] => { results := [.lit (.bool true)], args := [d1, d2, d3] }
  | _ => none }
def shardDecodesRow : OpenClaim := { program := "ytoodeoglpdapiaa", sum := "0a13cf617bb5b8a0fed1a516c612adb529799b4d67bb7188811b7ffff1fb8c12", func := "burgage/burgagelaw07.ShardDecodes", spec := "shardDecodes", unfollowed := true, recurses := true, apart := false }
def ShardDecodesSaid : Prop := shardDecodesRow.holds Try.pinned (OpenSpec.ofChange shardDecodesSpec)

/-- ITS FALSE NEIGHBOUR: 'it returns false'. Refute it at one input. -/
def shardDecodesWrong : ChangeSpec := { name := "shardDecodes", fn := fun _ => fun
  | [d1, d2, d3] => { results := [.lit (.bool false)], args := [d1, d2, d3] }
  | _ => none }
def ShardDecodesWrongFalsely : Prop := shardDecodesRow.holds Try.pinned (OpenSpec.ofChange shardDecodesWrong)

/-- 'burgagelaw07.ShardRebuilds': WHATEVER THE INPUT: true; the input reads as it did. -/
def shardRebuildsSpec : ChangeSpec := { name := "shardRebuilds", fn := fun _ => fun
  | [d1, d2, d3] => { results := [.lit (.bool true)], args := [d1, d2, d3] }
  | _ => none }
def shardRebuildsRow : OpenClaim := { program := "ytoodeoglpdapiaa", sum := "0a13cf617bb5b8a0fed1a516c612adb529799b4d67bb7188811b7ffff1fb8c12", func := "burgage/burgagelaw07.ShardRebuilds", spec := "shardRebuilds", unfollowed := true, recurses := true, apart := false }
def ShardRebuildsSaid : Prop := shardRebuildsRow.holds Try.pinned (OpenSpec.ofChange shardRebuildsSpec)

/-- ITS FALSE NEIGHBOUR: 'it returns false'. Refute it at one input. -/
def shardRebuildsWrong : ChangeSpec := { name := "shardRebuilds", fn := fun _ => fun
  | [d1, d2, d3] => { results := [.lit (.bool false)], args := [d1, d2, d3] }
  | _ => none }
def ShardRebuildsWrongFalsely : Prop := shardRebuildsRow.holds Try.pinned (OpenSpec.ofChange shardRebuildsWrong)

/-- 'burgagelaw07.ShardChecks': WHATEVER THE INPUT: true; the input reads as it did. -/
def shardChecksSpec : ChangeSpec := { name := "shardChecks", fn := fun _ => fun
  | [d1, d2, d3] => { results := [.lit (.bool true)], args := [d1, d2, d3] }
  | _ => none }
def shardChecksRow : OpenClaim := { program := "ytoodeoglpdapiaa", sum := "0a13cf617bb5b8a0fed1a516c612adb529799b4d67bb7188811b7ffff1fb8c12", func := "burgage/burgagelaw07.ShardChecks", spec := "shardChecks", unfollowed := true, recurses := true, apart := false }
def ShardChecksSaid : Prop := shardChecksRow.holds Try.pinned (OpenSpec.ofChange shardChecksSpec)

/-- ITS FALSE NEIGHBOUR: 'it returns false'. Refute it at one input. -/
def shardChecksWrong : ChangeSpec := { name := "shardChecks", fn := fun _ => fun
  | [d1, d2, d3] => { results := [.lit (.bool false)], args := [d1, d2, d3] }
  | _ => none }
def ShardChecksWrongFalsely : Prop := shardChecksRow.holds Try.pinned (OpenSpec.ofChange shardChecksWrong)

/-- 'burgagelaw07.ShardSums': WHATEVER THE INPUT: true; the input reads as it did. -/
def shardSumsSpec : ChangeSpec := { name := "shardSums", fn := fun _ => fun
  | [d1, d2, d3] => { results := [.lit (.bool true)], args := [d1, d2, d3] }
  | _ => none }
def shardSumsRow : OpenClaim := { program := "ytoodeoglpdapiaa", sum := "0a13cf617bb5b8a0fed1a516c612adb529799b4d67bb7188811b7ffff1fb8c12", func := "burgage/burgagelaw07.ShardSums", spec := "shardSums", unfollowed := true, recurses := true, apart := false }
def ShardSumsSaid : Prop := shardSumsRow.holds Try.pinned (OpenSpec.ofChange shardSumsSpec)

/-- ITS FALSE NEIGHBOUR: 'it returns false'. Refute it at one input. -/
def shardSumsWrong : ChangeSpec := { name := "shardSums", fn := fun _ => fun
  | [d1, d2, d3] => { results := [.lit (.bool false)], args := [d1, d2, d3] }
  | _ => none }
def ShardSumsWrongFalsely : Prop := shardSumsRow.holds Try.pinned (OpenSpec.ofChange shardSumsWrong)

/-- 'burgagelaw07.ShardRefuses': WHATEVER THE INPUT: true; the input reads as it did. -/
def shardRefusesSpec : ChangeSpec := { name := "shardRefuses", fn := fun _ => fun
  | [d1, d2, d3] => { results := [.lit (.bool true)], args := [d1, d2, d3] }
  | _ => none }
def shardRefusesRow : OpenClaim := { program := "ytoodeoglpdapiaa", sum := "0a13cf617bb5b8a0fed1a516c612adb529799b4d67bb7188811b7ffff1fb8c12", func := "burgage/burgagelaw07.ShardRefuses", spec := "shardRefuses", unfollowed := true, recurses := true, apart := false }
def ShardRefusesSaid : Prop := shardRefusesRow.holds Try.pinned (OpenSpec.ofChange shardRefusesSpec)

/-- ITS FALSE NEIGHBOUR: 'it returns false'. Refute it at one input. -/
def shardRefusesWrong : ChangeSpec := { name := "shardRefuses", fn := fun _ => fun
  | [d1, d2, d3] => { results := [.lit (.bool false)], args := [d1, d2, d3] }
  | _ => none }
def ShardRefusesWrongFalsely : Prop := shardRefusesRow.holds Try.pinned (OpenSpec.ofChange shardRefusesWrong)

/- THE SECOND FORM. 'bulk': how many values and letters a reading holds, each counted each time it is reached (what is shared counts as often as it is met; a slice's spare places count too). A statement '..UptoSaid' is the law's where the arguments, and the package variables that the reading takes, are together of bulk at most 1048576: NARROWER than '..Said'. Prove '..Said' where nothing that the law and all that it calls make is longer than what came in: it says more and counts as full. Else prove '..UptoSaid'. A law counts once. -/
mutual
def uptoBulk {H : Type} : DataW H → Nat
  | .lit (.string bytes) => bytes.length + 1
  | .lit _ => 1
  | .nil => 1
  | .ptr d => uptoBulk d + 1
  | .slice elems spare => uptoBulkAll elems + uptoBulkAll spare + 1
  | .agg parts => uptoBulkAll parts + 1
  | .iface _ d => uptoBulk d + 1
  | .map entries => uptoBulkEntries entries + 1
  | .held _ => 1
def uptoBulkAll {H : Type} : List (DataW H) → Nat
  | [] => 0
  | d :: r => uptoBulk d + uptoBulkAll r
def uptoBulkEntries {H : Type} : List (Lit × DataW H) → Nat
  | [] => 0
  | x :: r => uptoBulkEntry x + uptoBulkEntries r
def uptoBulkEntry {H : Type} : Lit × DataW H → Nat
  | (.string bytes, d) => bytes.length + uptoBulk d + 1
  | (_, d) => uptoBulk d + 1
 end
def uptoSmall : (H : Type) → List (DataW H) → Bool := fun _ ds => decide (uptoBulkAll ds ≤ 1048576)
def OpenSpec.upto (s : _root_.Go.ChangeSpec) : _root_.Go.OpenSpec := { _root_.Go.OpenSpec.ofChange s with cond := some uptoSmall }

/-- 'burgagelaw07.ShardMatchesReference', WHERE WHAT IT READS IS OF BULK AT MOST 1048576: true; the input reads as it did. -/
def shardMatchesReferenceUptoRow : OpenClaim := { program := "ytoodeoglpdapiaa", sum := "0a13cf617bb5b8a0fed1a516c612adb529799b4d67bb7188811b7ffff1fb8c12", func := "burgage/burgagelaw07.ShardMatchesReference", spec := "shardMatchesReference", unfollowed := true, recurses := true, apart := false, narrowed := true }
def ShardMatchesReferenceUptoSaid : Prop := shardMatchesReferenceUptoRow.holds Try.pinned (OpenSpec.upto shardMatchesReferenceSpec)

/-- 'burgagelaw07.ShardField', WHERE WHAT IT READS IS OF BULK AT MOST 1048576: true; the input reads as it did. -/
def shardFieldUptoRow : OpenClaim := { program := "ytoodeoglpdapiaa", sum := "0a13cf617bb5b8a0fed1a516c612adb529799b4d67bb7188811b7ffff1fb8c12", func := "burgage/burgagelaw07.ShardField", spec := "shardField", unfollowed := true, recurses := true, apart := false, narrowed := true }
def ShardFieldUptoSaid : Prop := shardFieldUptoRow.holds Try.pinned (OpenSpec.upto shardFieldSpec)

/-- 'burgagelaw07.ShardDecodes', WHERE WHAT IT READS IS OF BULK AT MOST 1048576: true; the input reads as it did. -/
def shardDecodesUptoRow : OpenClaim := { program := "ytoodeoglpdapiaa", sum := "0a13cf617bb5b8a0fed1a516c612adb529799b4d67bb7188811b7ffff1fb8c12", func := "burgage/burgagelaw07.ShardDecodes", spec := "shardDecodes", unfollowed := true, recurses := true, apart := false, narrowed := true }
def ShardDecodesUptoSaid : Prop := shardDecodesUptoRow.holds Try.pinned (OpenSpec.upto shardDecodesSpec)

/-- 'burgagelaw07.ShardRebuilds', WHERE WHAT IT READS IS OF BULK AT MOST 1048576: true; the input reads as it did. -/
def shardRebuildsUptoRow : OpenClaim := { program := "ytoodeoglpdapiaa", sum := "0a13cf617bb5b8a0fed1a516c612adb529799b4d67bb7188811b7ffff1fb8c12", func := "burgage/burgagelaw07.ShardRebuilds", spec := "shardRebuilds", unfollowed := true, recurses := true, apart := false, narrowed := true }
def ShardRebuildsUptoSaid : Prop := shardRebuildsUptoRow.holds Try.pinned (OpenSpec.upto shardRebuildsSpec)

/-- 'burgagelaw07.ShardChecks', WHERE WHAT IT READS IS OF BULK AT MOST 1048576: true; the input reads as it did. -/
def shardChecksUptoRow : OpenClaim := { program := "ytoodeoglpdapiaa", sum := "0a13cf617bb5b8a0fed1a516c612adb529799b4d67bb7188811b7ffff1fb8c12", func := "burgage/burgagelaw07.ShardChecks", spec := "shardChecks", unfollowed := true, recurses := true, apart := false, narrowed := true }
def ShardChecksUptoSaid : Prop := shardChecksUptoRow.holds Try.pinned (OpenSpec.upto shardChecksSpec)

/-- 'burgagelaw07.ShardSums', WHERE WHAT IT READS IS OF BULK AT MOST 1048576: true; the input reads as it did. -/
def shardSumsUptoRow : OpenClaim := { program := "ytoodeoglpdapiaa", sum := "0a13cf617bb5b8a0fed1a516c612adb529799b4d67bb7188811b7ffff1fb8c12", func := "burgage/burgagelaw07.ShardSums", spec := "shardSums", unfollowed := true, recurses := true, apart := false, narrowed := true }
def ShardSumsUptoSaid : Prop := shardSumsUptoRow.holds Try.pinned (OpenSpec.upto shardSumsSpec)

/-- 'burgagelaw07.ShardRefuses', WHERE WHAT IT READS IS OF BULK AT MOST 1048576: true; the input reads as it did. -/
def shardRefusesUptoRow : OpenClaim := { program := "ytoodeoglpdapiaa", sum := "0a13cf617bb5b8a0fed1a516c612adb529799b4d67bb7188811b7ffff1fb8c12", func := "burgage/burgagelaw07.ShardRefuses", spec := "shardRefuses", unfollowed := true, recurses := true, apart := false, narrowed := true }
def ShardRefusesUptoSaid : Prop := shardRefusesUptoRow.holds Try.pinned (OpenSpec.upto shardRefusesSpec)

end Rows
end Go.Proofs.Ytoodeoglpdapiaa
