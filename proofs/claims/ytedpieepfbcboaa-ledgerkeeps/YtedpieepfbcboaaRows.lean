/-
  No cell of these rows narrows 'for every input' (looked for: loops, veiled, ifaces, maps, wideKeys, modest, calm, conditions, laid).
  DERIVED. THE GIVEN ROWS OF THIS SEAT. 9 by the template 'for every input the law returns true; each argument reads behind the call as it read before'; 0 by the template 'total and deterministic' (their statements: YtedpieepfbcboaaTotals.lean).
  GIVEN WITH THE SEED: the statements are not yours to turn. If you find one false, say at which input.
  Laid BY PROGRAM, IN A SANDBOX (cutbox-rows.mjs): the forced cells as the released guide's own fill.sh prints them over the translation 07475ba5e8c764c1… (all of the seat's roots in one cut). By AI agents, Wed Nov 11 2026. No macro, syntax, notation, axiom, sorry.
-/
import Derived.Test.YtedpieepfbcboaaChecked
import GoSem.Claim
import GoSem.ClaimJoined
import GoSem.ClaimMapViews
import Derived.JoinedTies
import Derived.KernelRfl
namespace Go.Proofs.Ytedpieepfbcboaa
/- THE CELL 'sum', in the pinned program and in every row, IS THE sha256 OF THE DUMP (.gsa) THAT YtedpieepfbcboaaProg.lean LOADS. Nothing in Lean hashes anything: it is a label: what it is worth is what the hold of that sum in a sandbox is worth. -/
noncomputable def Try.pinned : Pinned := { name := "ytedpieepfbcboaa", sum := "07475ba5e8c764c1eaad6d6ece0c4d0f1cdf8bab6b24275dc1c3d0d81a39ea57", checked := Try.checked }
namespace Rows
def none {H : Type} : Left H := { results := [], args := [] }

/-- 'psephoslaw10.LedgerScript': WHATEVER THE INPUT: true; the input reads as it did. -/
def ledgerScriptSpec : ChangeSpec := { name := "ledgerScript", fn := fun _ => fun
  | [d1, d2, d3] => { results := [.lit (.bool true)], args := [d1, d2, d3] }
  | _ => none }
def ledgerScriptRow : OpenClaim := { program := "ytedpieepfbcboaa", sum := "07475ba5e8c764c1eaad6d6ece0c4d0f1cdf8bab6b24275dc1c3d0d81a39ea57", func := "psephos/psephoslaw10.LedgerScript", spec := "ledgerScript", unfollowed := true, recurses := true, apart := false }
def LedgerScriptSaid : Prop := ledgerScriptRow.holds Try.pinned (OpenSpec.ofChange ledgerScriptSpec)

/-- ITS FALSE NEIGHBOUR: 'it returns false'. Refute it at one input. -/
def ledgerScriptWrong : ChangeSpec := { name := "ledgerScript", fn := fun _ => fun
  | [d1, d2, d3] => { results := [.lit (.bool false)], args := [d1, d2, d3] }
  | _ => none }
def LedgerScriptWrongFalsely : Prop := ledgerScriptRow.holds Try.pinned (OpenSpec.ofChange ledgerScriptWrong)

/-- 'psephoslaw10.LedgerKeeps': WHATEVER THE INPUT: true; the input reads as it did. -/
def ledgerKeepsSpec : ChangeSpec := { name := "ledgerKeeps", fn := fun _ => fun
  | [d1, d2, d3, d4] => { results := [.lit (.bool true)], args := [d1, d2, d3, d4] }
  | _ => none }
def ledgerKeepsRow : OpenClaim := { program := "ytedpieepfbcboaa", sum := "07475ba5e8c764c1eaad6d6ece0c4d0f1cdf8bab6b24275dc1c3d0d81a39ea57", func := "psephos/psephoslaw10.LedgerKeeps", spec := "ledgerKeeps", unfollowed := true, recurses := true, apart := false }
def LedgerKeepsSaid : Prop := ledgerKeepsRow.holds Try.pinned (OpenSpec.ofChange ledgerKeepsSpec)

/-- ITS FALSE NEIGHBOUR: 'it returns false'. Refute it at one input. -/
def ledgerKeepsWrong : ChangeSpec := { name := "ledgerKeeps", fn := fun _ => fun
  | [d1, d2, d3, d4] => { results := [.lit (.bool false)], args := [d1, d2, d3, d4] }
  | _ => none }
def LedgerKeepsWrongFalsely : Prop := ledgerKeepsRow.holds Try.pinned (OpenSpec.ofChange ledgerKeepsWrong)

/-- 'psephoslaw10.LedgerMost': WHATEVER THE INPUT: true; the input reads as it did. -/
def ledgerMostSpec : ChangeSpec := { name := "ledgerMost", fn := fun _ => fun
  | [d1, d2, d3] => { results := [.lit (.bool true)], args := [d1, d2, d3] }
  | _ => none }
def ledgerMostRow : OpenClaim := { program := "ytedpieepfbcboaa", sum := "07475ba5e8c764c1eaad6d6ece0c4d0f1cdf8bab6b24275dc1c3d0d81a39ea57", func := "psephos/psephoslaw10.LedgerMost", spec := "ledgerMost", unfollowed := true, recurses := true, apart := false }
def LedgerMostSaid : Prop := ledgerMostRow.holds Try.pinned (OpenSpec.ofChange ledgerMostSpec)

/-- ITS FALSE NEIGHBOUR: 'it returns false'. Refute it at one input. -/
def ledgerMostWrong : ChangeSpec := { name := "ledgerMost", fn := fun _ => fun
  | [d1, d2, d3] => { results := [.lit (.bool false)], args := [d1, d2, d3] }
  | _ => none }
def LedgerMostWrongFalsely : Prop := ledgerMostRow.holds Try.pinned (OpenSpec.ofChange ledgerMostWrong)

/-- 'psephoslaw11.LatestScript': WHATEVER THE INPUT: true; the input reads as it did. -/
def latestScriptSpec : ChangeSpec := { name := "latestScript", fn := fun _ => fun
  | [d1, d2] => { results := [.lit (.bool true)], args := [d1, d2] }
  | _ => none }
def latestScriptRow : OpenClaim := { program := "ytedpieepfbcboaa", sum := "07475ba5e8c764c1eaad6d6ece0c4d0f1cdf8bab6b24275dc1c3d0d81a39ea57", func := "psephos/psephoslaw11.LatestScript", spec := "latestScript", apart := false }
def LatestScriptSaid : Prop := latestScriptRow.holds Try.pinned (OpenSpec.ofChange latestScriptSpec)

/-- ITS FALSE NEIGHBOUR: 'it returns false'. Refute it at one input. -/
def latestScriptWrong : ChangeSpec := { name := "latestScript", fn := fun _ => fun
  | [d1, d2] => { results := [.lit (.bool false)], args := [d1, d2] }
  | _ => none }
def LatestScriptWrongFalsely : Prop := latestScriptRow.holds Try.pinned (OpenSpec.ofChange latestScriptWrong)

/-- 'psephoslaw11.LatestOrder': WHATEVER THE INPUT: true; the input reads as it did. -/
def latestOrderSpec : ChangeSpec := { name := "latestOrder", fn := fun _ => fun
  | [d1, d2] => { results := [.lit (.bool true)], args := [d1, d2] }
  | _ => none }
def latestOrderRow : OpenClaim := { program := "ytedpieepfbcboaa", sum := "07475ba5e8c764c1eaad6d6ece0c4d0f1cdf8bab6b24275dc1c3d0d81a39ea57", func := "psephos/psephoslaw11.LatestOrder", spec := "latestOrder", apart := false }
def LatestOrderSaid : Prop := latestOrderRow.holds Try.pinned (OpenSpec.ofChange latestOrderSpec)

/-- ITS FALSE NEIGHBOUR: 'it returns false'. Refute it at one input. -/
def latestOrderWrong : ChangeSpec := { name := "latestOrder", fn := fun _ => fun
  | [d1, d2] => { results := [.lit (.bool false)], args := [d1, d2] }
  | _ => none }
def LatestOrderWrongFalsely : Prop := latestOrderRow.holds Try.pinned (OpenSpec.ofChange latestOrderWrong)

/-- 'psephoslaw11.LatestNone': WHATEVER THE INPUT: true; the input reads as it did. -/
def latestNoneSpec : ChangeSpec := { name := "latestNone", fn := fun _ => fun
  | [d1, d2] => { results := [.lit (.bool true)], args := [d1, d2] }
  | _ => none }
def latestNoneRow : OpenClaim := { program := "ytedpieepfbcboaa", sum := "07475ba5e8c764c1eaad6d6ece0c4d0f1cdf8bab6b24275dc1c3d0d81a39ea57", func := "psephos/psephoslaw11.LatestNone", spec := "latestNone", apart := false }
def LatestNoneSaid : Prop := latestNoneRow.holds Try.pinned (OpenSpec.ofChange latestNoneSpec)

/-- ITS FALSE NEIGHBOUR: 'it returns false'. Refute it at one input. -/
def latestNoneWrong : ChangeSpec := { name := "latestNone", fn := fun _ => fun
  | [d1, d2] => { results := [.lit (.bool false)], args := [d1, d2] }
  | _ => none }
def LatestNoneWrongFalsely : Prop := latestNoneRow.holds Try.pinned (OpenSpec.ofChange latestNoneWrong)

/-- 'psephoslaw11.LatestBan': WHATEVER THE INPUT: true; the input reads as it did. -/
def latestBanSpec : ChangeSpec := { name := "latestBan", fn := fun _ => fun
  | [d1, d2, d3, d4] => { results := [.lit (.bool true)], args := [d1, d2, d3, d4] }
  | _ => none }
def latestBanRow : OpenClaim := { program := "ytedpieepfbcboaa", sum := "07475ba5e8c764c1eaad6d6ece0c4d0f1cdf8bab6b24275dc1c3d0d81a39ea57", func := "psephos/psephoslaw11.LatestBan", spec := "latestBan", apart := false }
def LatestBanSaid : Prop := latestBanRow.holds Try.pinned (OpenSpec.ofChange latestBanSpec)

/-- ITS FALSE NEIGHBOUR: 'it returns false'. Refute it at one input. -/
def latestBanWrong : ChangeSpec := { name := "latestBan", fn := fun _ => fun
  | [d1, d2, d3, d4] => { results := [.lit (.bool false)], args := [d1, d2, d3, d4] }
  | _ => none }
def LatestBanWrongFalsely : Prop := latestBanRow.holds Try.pinned (OpenSpec.ofChange latestBanWrong)

/-- 'psephoslaw11.LatestSame': WHATEVER THE INPUT: true; the input reads as it did. -/
def latestSameSpec : ChangeSpec := { name := "latestSame", fn := fun _ => fun
  | [d1, d2] => { results := [.lit (.bool true)], args := [d1, d2] }
  | _ => none }
def latestSameRow : OpenClaim := { program := "ytedpieepfbcboaa", sum := "07475ba5e8c764c1eaad6d6ece0c4d0f1cdf8bab6b24275dc1c3d0d81a39ea57", func := "psephos/psephoslaw11.LatestSame", spec := "latestSame", apart := false }
def LatestSameSaid : Prop := latestSameRow.holds Try.pinned (OpenSpec.ofChange latestSameSpec)

/-- ITS FALSE NEIGHBOUR: 'it returns false'. Refute it at one input. -/
def latestSameWrong : ChangeSpec := { name := "latestSame", fn := fun _ => fun
  | [d1, d2] => { results := [.lit (.bool false)], args := [d1, d2] }
  | _ => none }
def LatestSameWrongFalsely : Prop := latestSameRow.holds Try.pinned (OpenSpec.ofChange latestSameWrong)

/-- 'psephoslaw11.LatestApart': WHATEVER THE INPUT: true; the input reads as it did. -/
def latestApartSpec : ChangeSpec := { name := "latestApart", fn := fun _ => fun
  | [d1, d2, d3, d4, d5] => { results := [.lit (.bool true)], args := [d1, d2, d3, d4, d5] }
  | _ => none }
def latestApartRow : OpenClaim := { program := "ytedpieepfbcboaa", sum := "07475ba5e8c764c1eaad6d6ece0c4d0f1cdf8bab6b24275dc1c3d0d81a39ea57", func := "psephos/psephoslaw11.LatestApart", spec := "latestApart", apart := false }
def LatestApartSaid : Prop := latestApartRow.holds Try.pinned (OpenSpec.ofChange latestApartSpec)

/-- ITS FALSE NEIGHBOUR: 'it returns false'. Refute it at one input. -/
def latestApartWrong : ChangeSpec := { name := "latestApart", fn := fun _ => fun
  | [d1, d2, d3, d4, d5] => { results := [.lit (.bool false)], args := [d1, d2, d3, d4, d5] }
  | _ => none }
def LatestApartWrongFalsely : Prop := latestApartRow.holds Try.pinned (OpenSpec.ofChange latestApartWrong)

/- THE SECOND FORM. 'bulk': how many values and letters a reading holds, each counted each time it is reached (what is shared counts as often as it is met; a slice's spare places count too). A statement '..UptoSaid' is the law's where the arguments, and the package variables that the reading takes, are together of bulk at most 1048576: NARROWER than '..Said'. Prove '..Said' where nothing that the law and all that it calls make is longer than what came in: it says more and counts as full. Else prove '..UptoSaid'. A law counts once. -/
mutual
def uptoBulk {H : Type} : DataW H → Nat
  | .lit (.string bytes) => bytes.length + 1
  | .lit _ => 1
  | .nil => 1
  | .ptr d => uptoBulk d + 1
  | .slice elems spare => uptoBulkAll elems + uptoBulkAll spare + 1
  | .agg parts => uptoBulkAll parts + 1
  | .iface _ d => uptoBulk d + 1
  | .map entries => uptoBulkEntries entries + 1
  | .held _ => 1
def uptoBulkAll {H : Type} : List (DataW H) → Nat
  | [] => 0
  | d :: r => uptoBulk d + uptoBulkAll r
def uptoBulkEntries {H : Type} : List (Lit × DataW H) → Nat
  | [] => 0
  | x :: r => uptoBulkEntry x + uptoBulkEntries r
def uptoBulkEntry {H : Type} : Lit × DataW H → Nat
  | (.string bytes, d) => bytes.length + uptoBulk d + 1
  | (_, d) => uptoBulk d + 1
 end
def uptoSmall : (H : Type) → List (DataW H) → Bool := fun _ ds => decide (uptoBulkAll ds ≤ 1048576)
def OpenSpec.upto (s : _root_.Go.ChangeSpec) : _root_.Go.OpenSpec := { _root_.Go.OpenSpec.ofChange s with cond := some uptoSmall }

/-- 'psephoslaw10.LedgerScript', WHERE WHAT IT READS IS OF BULK AT MOST 1048576: true; the input reads as it did. -/
def ledgerScriptUptoRow : OpenClaim := { program := "ytedpieepfbcboaa", sum := "07475ba5e8c764c1eaad6d6ece0c4d0f1cdf8bab6b24275dc1c3d0d81a39ea57", func := "psephos/psephoslaw10.LedgerScript", spec := "ledgerScript", unfollowed := true, recurses := true, apart := false, narrowed := true }
def LedgerScriptUptoSaid : Prop := ledgerScriptUptoRow.holds Try.pinned (OpenSpec.upto ledgerScriptSpec)

/-- 'psephoslaw10.LedgerKeeps', WHERE WHAT IT READS IS OF BULK AT MOST 1048576: true; the input reads as it did. -/
def ledgerKeepsUptoRow : OpenClaim := { program := "ytedpieepfbcboaa", sum := "07475ba5e8c764c1eaad6d6ece0c4d0f1cdf8bab6b24275dc1c3d0d81a39ea57", func := "psephos/psephoslaw10.LedgerKeeps", spec := "ledgerKeeps", unfollowed := true, recurses := true, apart := false, narrowed := true }
def LedgerKeepsUptoSaid : Prop := ledgerKeepsUptoRow.holds Try.pinned (OpenSpec.upto ledgerKeepsSpec)

/-- 'psephoslaw10.LedgerMost', WHERE WHAT IT READS IS OF BULK AT MOST 1048576: true; the input reads as it did. -/
def ledgerMostUptoRow : OpenClaim := { program := "ytedpieepfbcboaa", sum := "07475ba5e8c764c1eaad6d6ece0c4d0f1cdf8bab6b24275dc1c3d0d81a39ea57", func := "psephos/psephoslaw10.LedgerMost", spec := "ledgerMost", unfollowed := true, recurses := true, apart := false, narrowed := true }
def LedgerMostUptoSaid : Prop := ledgerMostUptoRow.holds Try.pinned (OpenSpec.upto ledgerMostSpec)

/-- 'psephoslaw11.LatestScript', WHERE WHAT IT READS IS OF BULK AT MOST 1048576: true; the input reads as it did. -/
def latestScriptUptoRow : OpenClaim := { program := "ytedpieepfbcboaa", sum := "07475ba5e8c764c1eaad6d6ece0c4d0f1cdf8bab6b24275dc1c3d0d81a39ea57", func := "psephos/psephoslaw11.LatestScript", spec := "latestScript", apart := false, narrowed := true }
def LatestScriptUptoSaid : Prop := latestScriptUptoRow.holds Try.pinned (OpenSpec.upto latestScriptSpec)

/-- 'psephoslaw11.LatestOrder', WHERE WHAT IT READS IS OF BULK AT MOST 1048576: true; the input reads as it did. -/
def latestOrderUptoRow : OpenClaim := { program := "ytedpieepfbcboaa", sum := "07475ba5e8c764c1eaad6d6ece0c4d0f1cdf8bab6b24275dc1c3d0d81a39ea57", func := "psephos/psephoslaw11.LatestOrder", spec := "latestOrder", apart := false, narrowed := true }
def LatestOrderUptoSaid : Prop := latestOrderUptoRow.holds Try.pinned (OpenSpec.upto latestOrderSpec)

/-- 'psephoslaw11.LatestNone', WHERE WHAT IT READS IS OF BULK AT MOST 1048576: true; the input reads as it did. -/
def latestNoneUptoRow : OpenClaim := { program := "ytedpieepfbcboaa", sum := "07475ba5e8c764c1eaad6d6ece0c4d0f1cdf8bab6b24275dc1c3d0d81a39ea57", func := "psephos/psephoslaw11.LatestNone", spec := "latestNone", apart := false, narrowed := true }
def LatestNoneUptoSaid : Prop := latestNoneUptoRow.holds Try.pinned (OpenSpec.upto latestNoneSpec)

/-- 'psephoslaw11.LatestBan', WHERE WHAT IT READS IS OF BULK AT MOST 1048576: true; the input reads as it did. -/
def latestBanUptoRow : OpenClaim := { program := "ytedpieepfbcboaa", sum := "07475ba5e8c764c1eaad6d6ece0c4d0f1cdf8bab6b24275dc1c3d0d81a39ea57", func := "psephos/psephoslaw11.LatestBan", spec := "latestBan", apart := false, narrowed := true }
def LatestBanUptoSaid : Prop := latestBanUptoRow.holds Try.pinned (OpenSpec.upto latestBanSpec)

/-- 'psephoslaw11.LatestSame', WHERE WHAT IT READS IS OF BULK AT MOST 1048576: true; the input reads as it did. -/
def latestSameUptoRow : OpenClaim := { program := "ytedpieepfbcboaa", sum := "07475ba5e8c764c1eaad6d6ece0c4d0f1cdf8bab6b24275dc1c3d0d81a39ea57", func := "psephos/psephoslaw11.LatestSame", spec := "latestSame", apart := false, narrowed := true }
def LatestSameUptoSaid : Prop := latestSameUptoRow.holds Try.pinned (OpenSpec.upto latestSameSpec)

/-- 'psephoslaw11.LatestApart', WHERE WHAT IT READS IS OF BULK AT MOST 1048576: true; the input reads as it did. -/
def latestApartUptoRow : OpenClaim := { program := "ytedpieepfbcboaa", sum := "07475ba5e8c764c1eaad6d6ece0c4d0f1cdf8bab6b24275dc1c3d0d81a39ea57", func := "psephos/psephoslaw11.LatestApart", spec := "latestApart", apart := false, narrowed := true }
def LatestApartUptoSaid : Prop := latestApartUptoRow.holds Try.pinned (OpenSpec.upto latestApartSpec)

end Rows
end Go.Proofs.Ytedpieepfbcboaa
