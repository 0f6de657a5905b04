/-
  NARROWER THAN 'FOR EVERY INPUT', by the rows' own cells (each row's printed sentence says how): ChargeMatchesReference: laid · ChargeSums: laid · ChargeChanges: laid · ChargeLimits: laid · ChargeOwners: laid · ChargeHeld: laid · ChargeSets: laid.
  DERIVED. THE GIVEN ROWS OF THIS SEAT. 7 by the template 'for every input the law returns true; each argument reads behind the call as it read before'; 0 by the template 'total and deterministic' (their statements: YtemgejblnionlaaGreatDoorTotals.lean).
  GIVEN WITH THE SEED: the statements are not yours to turn. If you find one false, say at which input.
  Laid BY PROGRAM, IN A SANDBOX (cutbox-rows.mjs): the forced cells as the released guide's own fill.sh prints them over the translation dd145745f90f50cc… (all of the seat's roots in one cut). By AI agents, Wed Nov 11 2026. No macro, syntax, notation, axiom, sorry.
-/
import Derived.Test.YtemgejblnionlaaGreatDoorChecked
import GoSem.Claim
import GoSem.ClaimJoined
import GoSem.ClaimMapViews
import Derived.JoinedTies
import Derived.KernelRfl
namespace Go.Proofs.YtemgejblnionlaaGreatDoor
/- THE CELL 'sum', in the pinned program and in every row, IS THE sha256 OF THE DUMP (.gsa) THAT YtemgejblnionlaaGreatDoorProg.lean LOADS. Nothing in Lean hashes anything: it is a label: what it is worth is what the hold of that sum in a sandbox is worth. -/
noncomputable def Tryz.pinned : Pinned := { name := "ytemgejblnionlaagreatdoor", sum := "dd145745f90f50cc32b2ad045c7d7a1232d34d3f2cfa9c64504204dd083f5359", checked := Tryz.checked }
namespace Rows
def none {H : Type} : Left H := { results := [], args := [] }

/- WHAT THE LISTED PACKAGE-LEVEL VARIABLES READ AS WHEN THE CALL BEGINS. Each datum BY PROGRAM (the guide's laid-datum.mjs) off the statement by which the dump's own 'gosem.cut.vars' lays the variable. In a bare row this is a premise. The card (YtemgejblnionlaaGreatDoorCards.lean) ties it to the program's text. -/
def laid_burgage_name_kinds {H : Type} : DataW H := .agg [.agg [.lit (.int .i32 97), .lit (.int .i32 122), .lit (.int .i64 1)], .agg [.lit (.int .i32 65), .lit (.int .i32 90), .lit (.int .i64 1)], .agg [.lit (.int .i32 48), .lit (.int .i32 57), .lit (.int .i64 2)], .agg [.lit (.int .i32 46), .lit (.int .i32 46), .lit (.int .i64 3)], .agg [.lit (.int .i32 95), .lit (.int .i32 95), .lit (.int .i64 3)], .agg [.lit (.int .i32 45), .lit (.int .i32 45), .lit (.int .i64 3)], .agg [.lit (.int .i32 126), .lit (.int .i32 126), .lit (.int .i64 3)]]

/-- 'burgagelaw10.ChargeMatchesReference': WHATEVER THE INPUT: true; the input reads as it did. -/
def chargeMatchesReferenceSpec : ChangeSpec := { name := "chargeMatchesReference", fn := fun _ => fun
  | [d1, d2, d3] => { results := [.lit (.bool true)], args := [d1, d2, d3] }
  | _ => none }
def chargeMatchesReferenceRow : OpenClaim := { program := "ytemgejblnionlaagreatdoor", sum := "dd145745f90f50cc32b2ad045c7d7a1232d34d3f2cfa9c64504204dd083f5359", func := "burgage/burgagelaw10.ChargeMatchesReference", spec := "chargeMatchesReference", inPlace := ["internal/bytealg.IndexByteString", "internal/bytealg.IndexString", "slices.overlaps[burgage/api.Entry]", "slices.overlaps[burgage/api.Open]", "slices.overlaps[burgage/api.Limit]"], unfollowed := true, recurses := true, named := ["internal/bytealg.MaxLen", "burgage/name.kinds"], plainKeys := false, apart := false, laid := [("burgage/name.kinds", laid_burgage_name_kinds)] }
def ChargeMatchesReferenceSaid : Prop := chargeMatchesReferenceRow.holds Tryz.pinned (OpenSpec.ofChange chargeMatchesReferenceSpec)

/-- ITS FALSE NEIGHBOUR: 'it returns false'. Refute it at one input. -/
def chargeMatchesReferenceWrong : ChangeSpec := { name := "chargeMatchesReference", fn := fun _ => fun
  | [d1, d2, d3] => { results := [.lit (.bool false)], args := [d1, d2, d3] }
  | _ => none }
def ChargeMatchesReferenceWrongFalsely : Prop := chargeMatchesReferenceRow.holds Tryz.pinned (OpenSpec.ofChange chargeMatchesReferenceWrong)

/-- 'burgagelaw10.ChargeSums': WHATEVER THE INPUT: true; the input reads as it did. -/
def chargeSumsSpec : ChangeSpec := { name := "chargeSums", fn := fun _ => fun
  | [d] => { results := [.lit (.bool true)], args := [d] }
  | _ => none }
def chargeSumsRow : OpenClaim := { program := "ytemgejblnionlaagreatdoor", sum := "dd145745f90f50cc32b2ad045c7d7a1232d34d3f2cfa9c64504204dd083f5359", func := "burgage/burgagelaw10.ChargeSums", spec := "chargeSums", inPlace := ["internal/bytealg.IndexByteString", "internal/bytealg.IndexString", "slices.overlaps[burgage/api.Entry]", "slices.overlaps[burgage/api.Open]", "slices.overlaps[burgage/api.Limit]"], unfollowed := true, recurses := true, named := ["internal/bytealg.MaxLen", "burgage/name.kinds"], plainKeys := false, apart := false, laid := [("burgage/name.kinds", laid_burgage_name_kinds)] }
def ChargeSumsSaid : Prop := chargeSumsRow.holds Tryz.pinned (OpenSpec.ofChange chargeSumsSpec)

/-- ITS FALSE NEIGHBOUR: 'it returns false'. Refute it at one input. -/
def chargeSumsWrong : ChangeSpec := { name := "chargeSums", fn := fun _ => fun
  | [d] => { results := [.lit (.bool false)], args := [d] }
  | _ => none }
def ChargeSumsWrongFalsely : Prop := chargeSumsRow.holds Tryz.pinned (OpenSpec.ofChange chargeSumsWrong)

/-- 'burgagelaw10.ChargeChanges': WHATEVER THE INPUT: true; the input reads as it did. -/
def chargeChangesSpec : ChangeSpec := { name := "chargeChanges", fn := fun _ => fun
  | [d1, d2] => { results := [.lit (.bool true)], args := [d1, d2] }
  | _ => none }
def chargeChangesRow : OpenClaim := { program := "ytemgejblnionlaagreatdoor", sum := "dd145745f90f50cc32b2ad045c7d7a1232d34d3f2cfa9c64504204dd083f5359", func := "burgage/burgagelaw10.ChargeChanges", spec := "chargeChanges", inPlace := ["internal/bytealg.IndexByteString", "internal/bytealg.IndexString", "slices.overlaps[burgage/api.Entry]", "slices.overlaps[burgage/api.Open]", "slices.overlaps[burgage/api.Limit]"], unfollowed := true, recurses := true, named := ["internal/bytealg.MaxLen", "burgage/name.kinds"], plainKeys := false, apart := false, laid := [("burgage/name.kinds", laid_burgage_name_kinds)] }
def ChargeChangesSaid : Prop := chargeChangesRow.holds Tryz.pinned (OpenSpec.ofChange chargeChangesSpec)

/-- ITS FALSE NEIGHBOUR: 'it returns false'. Refute it at one input. -/
def chargeChangesWrong : ChangeSpec := { name := "chargeChanges", fn := fun _ => fun
  | [d1, d2] => { results := [.lit (.bool false)], args := [d1, d2] }
  | _ => none }
def ChargeChangesWrongFalsely : Prop := chargeChangesRow.holds Tryz.pinned (OpenSpec.ofChange chargeChangesWrong)

/-- 'burgagelaw10.ChargeLimits': WHATEVER THE INPUT: true; the input reads as it did. -/
def chargeLimitsSpec : ChangeSpec := { name := "chargeLimits", fn := fun _ => fun
  | [d1, d2, d3] => { results := [.lit (.bool true)], args := [d1, d2, d3] }
  | _ => none }
def chargeLimitsRow : OpenClaim := { program := "ytemgejblnionlaagreatdoor", sum := "dd145745f90f50cc32b2ad045c7d7a1232d34d3f2cfa9c64504204dd083f5359", func := "burgage/burgagelaw10.ChargeLimits", spec := "chargeLimits", inPlace := ["internal/bytealg.IndexByteString", "internal/bytealg.IndexString", "slices.overlaps[burgage/api.Entry]", "slices.overlaps[burgage/api.Open]", "slices.overlaps[burgage/api.Limit]"], unfollowed := true, recurses := true, named := ["internal/bytealg.MaxLen", "burgage/name.kinds"], plainKeys := false, apart := false, laid := [("burgage/name.kinds", laid_burgage_name_kinds)] }
def ChargeLimitsSaid : Prop := chargeLimitsRow.holds Tryz.pinned (OpenSpec.ofChange chargeLimitsSpec)

/-- ITS FALSE NEIGHBOUR: 'it returns false'. Refute it at one input. -/
def chargeLimitsWrong : ChangeSpec := { name := "chargeLimits", fn := fun _ => fun
  | [d1, d2, d3] => { results := [.lit (.bool false)], args := [d1, d2, d3] }
  | _ => none }
def ChargeLimitsWrongFalsely : Prop := chargeLimitsRow.holds Tryz.pinned (OpenSpec.ofChange chargeLimitsWrong)

/-- 'burgagelaw10.ChargeOwners': WHATEVER THE INPUT: true; the input reads as it did. -/
def chargeOwnersSpec : ChangeSpec := { name := "chargeOwners", fn := fun _ => fun
  | [d1, d2, d3] => { results := [.lit (.bool true)], args := [d1, d2, d3] }
  | _ => none }
def chargeOwnersRow : OpenClaim := { program := "ytemgejblnionlaagreatdoor", sum := "dd145745f90f50cc32b2ad045c7d7a1232d34d3f2cfa9c64504204dd083f5359", func := "burgage/burgagelaw10.ChargeOwners", spec := "chargeOwners", inPlace := ["internal/bytealg.IndexByteString", "internal/bytealg.IndexString", "slices.overlaps[burgage/api.Entry]", "slices.overlaps[burgage/api.Open]", "slices.overlaps[burgage/api.Limit]"], unfollowed := true, recurses := true, named := ["internal/bytealg.MaxLen", "burgage/name.kinds"], plainKeys := false, apart := false, laid := [("burgage/name.kinds", laid_burgage_name_kinds)] }
def ChargeOwnersSaid : Prop := chargeOwnersRow.holds Tryz.pinned (OpenSpec.ofChange chargeOwnersSpec)

/-- ITS FALSE NEIGHBOUR: 'it returns false'. Refute it at one input. -/
def chargeOwnersWrong : ChangeSpec := { name := "chargeOwners", fn := fun _ => fun
  | [d1, d2, d3] => { results := [.lit (.bool false)], args := [d1, d2, d3] }
  | _ => none }
def ChargeOwnersWrongFalsely : Prop := chargeOwnersRow.holds Tryz.pinned (OpenSpec.ofChange chargeOwnersWrong)

/-- 'burgagelaw10.ChargeHeld': WHATEVER THE INPUT: true; the input reads as it did. -/
def chargeHeldSpec : ChangeSpec := { name := "chargeHeld", fn := fun _ => fun
  | [d1, d2] => { results := [.lit (.bool true)], args := [d1, d2] }
  | _ => none }
def chargeHeldRow : OpenClaim := { program := "ytemgejblnionlaagreatdoor", sum := "dd145745f90f50cc32b2ad045c7d7a1232d34d3f2cfa9c64504204dd083f5359", func := "burgage/burgagelaw10.ChargeHeld", spec := "chargeHeld", inPlace := ["internal/bytealg.IndexByteString", "internal/bytealg.IndexString", "slices.overlaps[burgage/api.Entry]", "slices.overlaps[burgage/api.Open]", "slices.overlaps[burgage/api.Limit]"], unfollowed := true, recurses := true, named := ["internal/bytealg.MaxLen", "burgage/name.kinds"], plainKeys := false, apart := false, laid := [("burgage/name.kinds", laid_burgage_name_kinds)] }
def ChargeHeldSaid : Prop := chargeHeldRow.holds Tryz.pinned (OpenSpec.ofChange chargeHeldSpec)

/-- ITS FALSE NEIGHBOUR: 'it returns false'. Refute it at one input. -/
def chargeHeldWrong : ChangeSpec := { name := "chargeHeld", fn := fun _ => fun
  | [d1, d2] => { results := [.lit (.bool false)], args := [d1, d2] }
  | _ => none }
def ChargeHeldWrongFalsely : Prop := chargeHeldRow.holds Tryz.pinned (OpenSpec.ofChange chargeHeldWrong)

/-- 'burgagelaw10.ChargeSets': WHATEVER THE INPUT: true; the input reads as it did. -/
def chargeSetsSpec : ChangeSpec := { name := "chargeSets", fn := fun _ => fun
  | [d1, d2, d3] => { results := [.lit (.bool true)], args := [d1, d2, d3] }
  | _ => none }
def chargeSetsRow : OpenClaim := { program := "ytemgejblnionlaagreatdoor", sum := "dd145745f90f50cc32b2ad045c7d7a1232d34d3f2cfa9c64504204dd083f5359", func := "burgage/burgagelaw10.ChargeSets", spec := "chargeSets", inPlace := ["internal/bytealg.IndexByteString", "internal/bytealg.IndexString", "slices.overlaps[burgage/api.Entry]", "slices.overlaps[burgage/api.Open]", "slices.overlaps[burgage/api.Limit]"], unfollowed := true, recurses := true, named := ["internal/bytealg.MaxLen", "burgage/name.kinds"], plainKeys := false, apart := false, laid := [("burgage/name.kinds", laid_burgage_name_kinds)] }
def ChargeSetsSaid : Prop := chargeSetsRow.holds Tryz.pinned (OpenSpec.ofChange chargeSetsSpec)

/-- ITS FALSE NEIGHBOUR: 'it returns false'. Refute it at one input. -/
def chargeSetsWrong : ChangeSpec := { name := "chargeSets", fn := fun _ => fun
  | [d1, d2, d3] => { results := [.lit (.bool false)], args := [d1, d2, d3] }
  | _ => none }
def ChargeSetsWrongFalsely : Prop := chargeSetsRow.holds Tryz.pinned (OpenSpec.ofChange chargeSetsWrong)

/- THE SECOND FORM. 'bulk': how many values and letters a reading holds, each counted each time it is reached (what is shared counts as often as it is met; a slice's spare places count too). A statement '..UptoSaid' is the law's where the arguments, and the package variables that the reading takes, are together of bulk at most 1048576: NARROWER than '..Said'. Prove '..Said' where nothing that the law and all that it calls make is longer than what came in: it says more and counts as full. Else prove '..UptoSaid'. A law counts once. -/
mutual
def uptoBulk {H : Type} : DataW H → Nat
  | .lit (.string bytes) => bytes.length + 1
  | .lit _ => 1
  | .nil => 1
  | .ptr d => uptoBulk d + 1
  | .slice elems spare => uptoBulkAll elems + uptoBulkAll spare + 1
  | .agg parts => uptoBulkAll parts + 1
  | .iface _ d => uptoBulk d + 1
  | .map entries => uptoBulkEntries entries + 1
  | .held _ => 1
def uptoBulkAll {H : Type} : List (DataW H) → Nat
  | [] => 0
  | d :: r => uptoBulk d + uptoBulkAll r
def uptoBulkEntries {H : Type} : List (Lit × DataW H) → Nat
  | [] => 0
  | x :: r => uptoBulkEntry x + uptoBulkEntries r
def uptoBulkEntry {H : Type} : Lit × DataW H → Nat
  | (.string bytes, d) => bytes.length + uptoBulk d + 1
  | (_, d) => uptoBulk d + 1
 end
def uptoSmall : (H : Type) → List (DataW H) → Bool := fun _ ds => decide (uptoBulkAll ds ≤ 1048576)
def OpenSpec.upto (s : _root_.Go.ChangeSpec) : _root_.Go.OpenSpec := { _root_.Go.OpenSpec.ofChange s with cond := some uptoSmall }

/-- 'burgagelaw10.ChargeMatchesReference', WHERE WHAT IT READS IS OF BULK AT MOST 1048576: true; the input reads as it did. -/
def chargeMatchesReferenceUptoRow : OpenClaim := { program := "ytemgejblnionlaagreatdoor", sum := "dd145745f90f50cc32b2ad045c7d7a1232d34d3f2cfa9c64504204dd083f5359", func := "burgage/burgagelaw10.ChargeMatchesReference", spec := "chargeMatchesReference", inPlace := ["internal/bytealg.IndexByteString", "internal/bytealg.IndexString", "slices.overlaps[burgage/api.Entry]", "slices.overlaps[burgage/api.Open]", "slices.overlaps[burgage/api.Limit]"], unfollowed := true, recurses := true, named := ["internal/bytealg.MaxLen", "burgage/name.kinds"], plainKeys := false, apart := false, laid := [("burgage/name.kinds", laid_burgage_name_kinds)], narrowed := true }
def ChargeMatchesReferenceUptoSaid : Prop := chargeMatchesReferenceUptoRow.holds Tryz.pinned (OpenSpec.upto chargeMatchesReferenceSpec)

/-- 'burgagelaw10.ChargeSums', WHERE WHAT IT READS IS OF BULK AT MOST 1048576: true; the input reads as it did. -/
def chargeSumsUptoRow : OpenClaim := { program := "ytemgejblnionlaagreatdoor", sum := "dd145745f90f50cc32b2ad045c7d7a1232d34d3f2cfa9c64504204dd083f5359", func := "burgage/burgagelaw10.ChargeSums", spec := "chargeSums", inPlace := ["internal/bytealg.IndexByteString", "internal/bytealg.IndexString", "slices.overlaps[burgage/api.Entry]", "slices.overlaps[burgage/api.Open]", "slices.overlaps[burgage/api.Limit]"], unfollowed := true, recurses := true, named := ["internal/bytealg.MaxLen", "burgage/name.kinds"], plainKeys := false, apart := false, laid := [("burgage/name.kinds", laid_burgage_name_kinds)], narrowed := true }
def ChargeSumsUptoSaid : Prop := chargeSumsUptoRow.holds Tryz.pinned (OpenSpec.upto chargeSumsSpec)

/-- 'burgagelaw10.ChargeChanges', WHERE WHAT IT READS IS OF BULK AT MOST 1048576: true; the input reads as it did. -/
def chargeChangesUptoRow : OpenClaim := { program := "ytemgejblnionlaagreatdoor", sum := "dd145745f90f50cc32b2ad045c7d7a1232d34d3f2cfa9c64504204dd083f5359", func := "burgage/burgagelaw10.ChargeChanges", spec := "chargeChanges", inPlace := ["internal/bytealg.IndexByteString", "internal/bytealg.IndexString", "slices.overlaps[burgage/api.Entry]", "slices.overlaps[burgage/api.Open]", "slices.overlaps[burgage/api.Limit]"], unfollowed := true, recurses := true, named := ["internal/bytealg.MaxLen", "burgage/name.kinds"], plainKeys := false, apart := false, laid := [("burgage/name.kinds", laid_burgage_name_kinds)], narrowed := true }
def ChargeChangesUptoSaid : Prop := chargeChangesUptoRow.holds Tryz.pinned (OpenSpec.upto chargeChangesSpec)

/-- 'burgagelaw10.ChargeLimits', WHERE WHAT IT READS IS OF BULK AT MOST 1048576: true; the input reads as it did. -/
def chargeLimitsUptoRow : OpenClaim := { program := "ytemgejblnionlaagreatdoor", sum := "dd145745f90f50cc32b2ad045c7d7a1232d34d3f2cfa9c64504204dd083f5359", func := "burgage/burgagelaw10.ChargeLimits", spec := "chargeLimits", inPlace := ["internal/bytealg.IndexByteString", "internal/bytealg.IndexString", "slices.overlaps[burgage/api.Entry]", "slices.overlaps[burgage/api.Open]", "slices.overlaps[burgage/api.Limit]"], unfollowed := true, recurses := true, named := ["internal/bytealg.MaxLen", "burgage/name.kinds"], plainKeys := false, apart := false, laid := [("burgage/name.kinds", laid_burgage_name_kinds)], narrowed := true }
def ChargeLimitsUptoSaid : Prop := chargeLimitsUptoRow.holds Tryz.pinned (OpenSpec.upto chargeLimitsSpec)

/-- 'burgagelaw10.ChargeOwners', WHERE WHAT IT READS IS OF BULK AT MOST 1048576: true; the input reads as it did. -/
def chargeOwnersUptoRow : OpenClaim := { program := "ytemgejblnionlaagreatdoor", sum := "dd145745f90f50cc32b2ad045c7d7a1232d34d3f2cfa9c64504204dd083f5359", func := "burgage/burgagelaw10.ChargeOwners", spec := "chargeOwners", inPlace := ["internal/bytealg.IndexByteString", "internal/bytealg.IndexString", "slices.overlaps[burgage/api.Entry]", "slices.overlaps[burgage/api.Open]", "slices.overlaps[burgage/api.Limit]"], unfollowed := true, recurses := true, named := ["internal/bytealg.MaxLen", "burgage/name.kinds"], plainKeys := false, apart := false, laid := [("burgage/name.kinds", laid_burgage_name_kinds)], narrowed := true }
def ChargeOwnersUptoSaid : Prop := chargeOwnersUptoRow.holds Tryz.pinned (OpenSpec.upto chargeOwnersSpec)

/-- 'burgagelaw10.ChargeHeld', WHERE WHAT IT READS IS OF BULK AT MOST 1048576: true; the input reads as it did. -/
def chargeHeldUptoRow : OpenClaim := { program := "ytemgejblnionlaagreatdoor", sum := "dd145745f90f50cc32b2ad045c7d7a1232d34d3f2cfa9c64504204dd083f5359", func := "burgage/burgagelaw10.ChargeHeld", spec := "chargeHeld", inPlace := ["internal/bytealg.IndexByteString", "internal/bytealg.IndexString", "slices.overlaps[burgage/api.Entry]", "slices.overlaps[burgage/api.Open]", "slices.overlaps[burgage/api.Limit]"], unfollowed := true, recurses := true, named := ["internal/bytealg.MaxLen", "burgage/name.kinds"], plainKeys := false, apart := false, laid := [("burgage/name.kinds", laid_burgage_name_kinds)], narrowed := true }
def ChargeHeldUptoSaid : Prop := chargeHeldUptoRow.holds Tryz.pinned (OpenSpec.upto chargeHeldSpec)

/-- 'burgagelaw10.ChargeSets', WHERE WHAT IT READS IS OF BULK AT MOST 1048576: true; the input reads as it did. -/
def chargeSetsUptoRow : OpenClaim := { program := "ytemgejblnionlaagreatdoor", sum := "dd145745f90f50cc32b2ad045c7d7a1232d34d3f2cfa9c64504204dd083f5359", func := "burgage/burgagelaw10.ChargeSets", spec := "chargeSets", inPlace := ["internal/bytealg.IndexByteString", "internal/bytealg.IndexString", "slices.overlaps[burgage/api.Entry]", "slices.overlaps[burgage/api.Open]", "slices.overlaps[burgage/api.Limit]"], unfollowed := true, recurses := true, named := ["internal/bytealg.MaxLen", "burgage/name.kinds"], plainKeys := false, apart := false, laid := [("burgage/name.kinds", laid_burgage_name_kinds)], narrowed := true }
def ChargeSetsUptoSaid : Prop := chargeSetsUptoRow.holds Tryz.pinned (OpenSpec.upto chargeSetsSpec)

end Rows
end Go.Proofs.YtemgejblnionlaaGreatDoor
