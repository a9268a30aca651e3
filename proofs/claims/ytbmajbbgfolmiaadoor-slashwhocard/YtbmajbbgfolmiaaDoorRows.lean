/-
  NARROWER THAN 'FOR EVERY INPUT', by the rows' own cells (each row's printed sentence says how): SlashWho: laid · SlashTurn: laid · SlashSame: laid.
  DERIVED. THE GIVEN ROWS OF THIS SEAT. 3 by the template 'for every input the law returns true; each argument reads behind the call as it read before'; 0 by the template 'total and deterministic' (their statements: YtbmajbbgfolmiaaDoorTotals.lean).
  GIVEN WITH THE SEED: the statements are not yours to turn. If you find one false, say at which input.
  Laid BY PROGRAM, IN A SANDBOX (cutbox-rows.mjs): the forced cells as the released guide's own fill.sh prints them over the translation 5ad075e1e70037cb… (all of the seat's roots in one cut). By AI agents, Wed Nov 11 2026. No macro, syntax, notation, axiom, sorry.
-/
import Derived.Test.YtbmajbbgfolmiaaDoorChecked
import GoSem.Claim
import GoSem.ClaimJoined
import GoSem.ClaimMapViews
import Derived.JoinedTies
import Derived.KernelRfl
namespace Go.Proofs.YtbmajbbgfolmiaaDoor
/- THE CELL 'sum', in the pinned program and in every row, IS THE sha256 OF THE DUMP (.gsa) THAT YtbmajbbgfolmiaaDoorProg.lean LOADS. Nothing in Lean hashes anything: it is a label: what it is worth is what the hold of that sum in a sandbox is worth. -/
noncomputable def Tryd.pinned : Pinned := { name := "ytbmajbbgfolmiaadoor", sum := "5ad075e1e70037cbf356cc2c45af3c71d4a523d2527bc37edc896fca38da58c1", checked := Tryd.checked }
namespace Rows
def none {H : Type} : Left H := { results := [], args := [] }

/- WHAT THE LISTED PACKAGE-LEVEL VARIABLES READ AS WHEN THE CALL BEGINS. Each datum BY PROGRAM (the guide's laid-datum.mjs) off the statement by which the dump's own 'gosem.cut.vars' lays the variable. In a bare row this is a premise. The card (YtbmajbbgfolmiaaDoorCards.lean) ties it to the program's text. -/
def laid_errors_errorType {H : Type} : DataW H := .iface "internal/reflectlite.rtype" (.agg [.ptr (.lit (.string [101, 114, 114, 111, 114]))])

/-- 'psephoslaw06.SlashWho': WHATEVER THE INPUT: true; the input reads as it did. -/
def slashWhoSpec : ChangeSpec := { name := "slashWho", fn := fun _ => fun
  | [d1, d2, d3, d4] => { results := [.lit (.bool true)], args := [d1, d2, d3, d4] }
  | _ => none }
def slashWhoRow : OpenClaim := { program := "ytbmajbbgfolmiaadoor", sum := "5ad075e1e70037cbf356cc2c45af3c71d4a523d2527bc37edc896fca38da58c1", func := "psephos/psephoslaw06.SlashWho", spec := "slashWho", inPlace := ["internal/reflectlite.ValueOf", "(internal/reflectlite.Value).Type", "(internal/reflectlite.Value).IsNil", "internal/reflectlite.TypeOf", "(internal/reflectlite.Value).Elem", "(internal/reflectlite.Value).Set"], unfollowed := true, recurses := true, named := ["errors.errorType"], apart := false, laid := [("errors.errorType", laid_errors_errorType)] }
def SlashWhoSaid : Prop := slashWhoRow.holds Tryd.pinned (OpenSpec.ofChange slashWhoSpec)

/-- ITS FALSE NEIGHBOUR: 'it returns false'. Refute it at one input. -/
def slashWhoWrong : ChangeSpec := { name := "slashWho", fn := fun _ => fun
  | [d1, d2, d3, d4] => { results := [.lit (.bool false)], args := [d1, d2, d3, d4] }
  | _ => none }
def SlashWhoWrongFalsely : Prop := slashWhoRow.holds Tryd.pinned (OpenSpec.ofChange slashWhoWrong)

/-- 'psephoslaw06.SlashTurn': WHATEVER THE INPUT: true; the input reads as it did. -/
def slashTurnSpec : ChangeSpec := { name := "slashTurn", fn := fun _ => fun
  | [d1, d2, d3] => { results := [.lit (.bool true)], args := [d1, d2, d3] }
  | _ => none }
def slashTurnRow : OpenClaim := { program := "ytbmajbbgfolmiaadoor", sum := "5ad075e1e70037cbf356cc2c45af3c71d4a523d2527bc37edc896fca38da58c1", func := "psephos/psephoslaw06.SlashTurn", spec := "slashTurn", inPlace := ["internal/reflectlite.ValueOf", "(internal/reflectlite.Value).Type", "(internal/reflectlite.Value).IsNil", "internal/reflectlite.TypeOf", "(internal/reflectlite.Value).Elem", "(internal/reflectlite.Value).Set"], unfollowed := true, recurses := true, named := ["errors.errorType"], apart := false, laid := [("errors.errorType", laid_errors_errorType)] }
def SlashTurnSaid : Prop := slashTurnRow.holds Tryd.pinned (OpenSpec.ofChange slashTurnSpec)

/-- ITS FALSE NEIGHBOUR: 'it returns false'. Refute it at one input. -/
def slashTurnWrong : ChangeSpec := { name := "slashTurn", fn := fun _ => fun
  | [d1, d2, d3] => { results := [.lit (.bool false)], args := [d1, d2, d3] }
  | _ => none }
def SlashTurnWrongFalsely : Prop := slashTurnRow.holds Tryd.pinned (OpenSpec.ofChange slashTurnWrong)

/-- 'psephoslaw06.SlashSame': WHATEVER THE INPUT: true; the input reads as it did. -/
def slashSameSpec : ChangeSpec := { name := "slashSame", fn := fun _ => fun
  | [d1, d2, d3] => { results := [.lit (.bool true)], args := [d1, d2, d3] }
  | _ => none }
def slashSameRow : OpenClaim := { program := "ytbmajbbgfolmiaadoor", sum := "5ad075e1e70037cbf356cc2c45af3c71d4a523d2527bc37edc896fca38da58c1", func := "psephos/psephoslaw06.SlashSame", spec := "slashSame", inPlace := ["internal/reflectlite.ValueOf", "(internal/reflectlite.Value).Type", "(internal/reflectlite.Value).IsNil", "internal/reflectlite.TypeOf", "(internal/reflectlite.Value).Elem", "(internal/reflectlite.Value).Set"], unfollowed := true, recurses := true, named := ["errors.errorType"], apart := false, laid := [("errors.errorType", laid_errors_errorType)] }
def SlashSameSaid : Prop := slashSameRow.holds Tryd.pinned (OpenSpec.ofChange slashSameSpec)

/-- ITS FALSE NEIGHBOUR: 'it returns false'. Refute it at one input. -/
def slashSameWrong : ChangeSpec := { name := "slashSame", fn := fun _ => fun
  | [d1, d2, d3] => { results := [.lit (.bool false)], args := [d1, d2, d3] }
  | _ => none }
def SlashSameWrongFalsely : Prop := slashSameRow.holds Tryd.pinned (OpenSpec.ofChange slashSameWrong)

/- THE SECOND FORM. 'bulk': how many values and letters a reading holds, each counted each time it is reached (what is shared counts as often as it is met; a slice's spare places count too). A statement '..UptoSaid' is the law's where the arguments, and the package variables that the reading takes, are together of bulk at most 1048576: NARROWER than '..Said'. Prove '..Said' where nothing that the law and all that it calls make is longer than what came in: it says more and counts as full. Else prove '..UptoSaid'. A law counts once. -/
mutual
def uptoBulk {H : Type} : DataW H → Nat
  | .lit (.string bytes) => bytes.length + 1
  | .lit _ => 1
  | .nil => 1
  | .ptr d => uptoBulk d + 1
  | .slice elems spare => uptoBulkAll elems + uptoBulkAll spare + 1
  | .agg parts => uptoBulkAll parts + 1
  | .iface _ d => uptoBulk d + 1
  | .map entries => uptoBulkEntries entries + 1
  | .held _ => 1
def uptoBulkAll {H : Type} : List (DataW H) → Nat
  | [] => 0
  | d :: r => uptoBulk d + uptoBulkAll r
def uptoBulkEntries {H : Type} : List (Lit × DataW H) → Nat
  | [] => 0
  | x :: r => uptoBulkEntry x + uptoBulkEntries r
def uptoBulkEntry {H : Type} : Lit × DataW H → Nat
  | (.string bytes, d) => bytes.length + uptoBulk d + 1
  | (_, d) => uptoBulk d + 1
 end
def uptoSmall : (H : Type) → List (DataW H) → Bool := fun _ ds => decide (uptoBulkAll ds ≤ 1048576)
def OpenSpec.upto (s : _root_.Go.ChangeSpec) : _root_.Go.OpenSpec := { _root_.Go.OpenSpec.ofChange s with cond := some uptoSmall }

/-- 'psephoslaw06.SlashWho', WHERE WHAT IT READS IS OF BULK AT MOST 1048576: true; the input reads as it did. -/
def slashWhoUptoRow : OpenClaim := { program := "ytbmajbbgfolmiaadoor", sum := "5ad075e1e70037cbf356cc2c45af3c71d4a523d2527bc37edc896fca38da58c1", func := "psephos/psephoslaw06.SlashWho", spec := "slashWho", inPlace := ["internal/reflectlite.ValueOf", "(internal/reflectlite.Value).Type", "(internal/reflectlite.Value).IsNil", "internal/reflectlite.TypeOf", "(internal/reflectlite.Value).Elem", "(internal/reflectlite.Value).Set"], unfollowed := true, recurses := true, named := ["errors.errorType"], apart := false, laid := [("errors.errorType", laid_errors_errorType)], narrowed := true }
def SlashWhoUptoSaid : Prop := slashWhoUptoRow.holds Tryd.pinned (OpenSpec.upto slashWhoSpec)

/-- 'psephoslaw06.SlashTurn', WHERE WHAT IT READS IS OF BULK AT MOST 1048576: true; the input reads as it did. -/
def slashTurnUptoRow : OpenClaim := { program := "ytbmajbbgfolmiaadoor", sum := "5ad075e1e70037cbf356cc2c45af3c71d4a523d2527bc37edc896fca38da58c1", func := "psephos/psephoslaw06.SlashTurn", spec := "slashTurn", inPlace := ["internal/reflectlite.ValueOf", "(internal/reflectlite.Value).Type", "(internal/reflectlite.Value).IsNil", "internal/reflectlite.TypeOf", "(internal/reflectlite.Value).Elem", "(internal/reflectlite.Value).Set"], unfollowed := true, recurses := true, named := ["errors.errorType"], apart := false, laid := [("errors.errorType", laid_errors_errorType)], narrowed := true }
def SlashTurnUptoSaid : Prop := slashTurnUptoRow.holds Tryd.pinned (OpenSpec.upto slashTurnSpec)

/-- 'psephoslaw06.SlashSame', WHERE WHAT IT READS IS OF BULK AT MOST 1048576: true; the input reads as it did. -/
def slashSameUptoRow : OpenClaim := { program := "ytbmajbbgfolmiaadoor", sum := "5ad075e1e70037cbf356cc2c45af3c71d4a523d2527bc37edc896fca38da58c1", func := "psephos/psephoslaw06.SlashSame", spec := "slashSame", inPlace := ["internal/reflectlite.ValueOf", "(internal/reflectlite.Value).Type", "(internal/reflectlite.Value).IsNil", "internal/reflectlite.TypeOf", "(internal/reflectlite.Value).Elem", "(internal/reflectlite.Value).Set"], unfollowed := true, recurses := true, named := ["errors.errorType"], apart := false, laid := [("errors.errorType", laid_errors_errorType)], narrowed := true }
def SlashSameUptoSaid : Prop := slashSameUptoRow.holds Tryd.pinned (OpenSpec.upto slashSameSpec)

end Rows
end Go.Proofs.YtbmajbbgfolmiaaDoor
