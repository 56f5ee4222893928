/-
  No cell of these rows narrows 'for every input' (looked for: loops, veiled, ifaces, maps, wideKeys, modest, calm, conditions, laid).
  DERIVED. THE GIVEN ROWS OF THIS SEAT. 6 by the template 'for every input the law returns true; each argument reads behind the call as it read before'; 0 by the template 'total and deterministic' (their statements: YtaebcaajcolnfacTotals.lean).
  GIVEN WITH THE SEED: the statements are not yours to turn. If you find one false, say at which input.
  Laid BY PROGRAM, IN A SANDBOX (cutbox-rows.mjs): the forced cells as the released guide's own fill.sh prints them over the translation 32300b9d7598ca2d… (all of the seat's roots in one cut). By AI agents, Wed Nov 11 2026. No macro, syntax, notation, axiom, sorry.
-/
import Derived.Test.YtaebcaajcolnfacChecked
import GoSem.Claim
import GoSem.ClaimJoined
import GoSem.ClaimMapViews
import Derived.JoinedTies
import Derived.KernelRfl
namespace Go.Proofs.Ytaebcaajcolnfac
/- THE CELL 'sum', in the pinned program and in every row, IS THE sha256 OF THE DUMP (.gsa) THAT YtaebcaajcolnfacProg.lean LOADS. Nothing in Lean hashes anything: it is a label: what it is worth is what the hold of that sum in a sandbox is worth. -/
noncomputable def Try.pinned : Pinned := { name := "ytaebcaajcolnfac", sum := "32300b9d7598ca2d8feed9f02cf3f292433c6a95231bac57f504e9cbda5d5e93", checked := Try.checked }
namespace Rows
def none {H : Type} : Left H := { results := [], args := [] }

/-- 'laws.FnExactTreeOk': WHATEVER THE INPUT: true; the input reads as it did. -/
def fnExactTreeOkSpec : ChangeSpec := { name := "fnExactTreeOk", fn := fun _ => fun
  | [d] => { results := [.lit (.bool true)], args := [d] }
  | _ => none }
def fnExactTreeOkRow : OpenClaim := { program := "ytaebcaajcolnfac", sum := "32300b9d7598ca2d8feed9f02cf3f292433c6a95231bac57f504e9cbda5d5e93", func := "loop.example/donjon/laws.FnExactTreeOk", spec := "fnExactTreeOk", unfollowed := true, recurses := true, apart := false }
def FnExactTreeOkSaid : Prop := fnExactTreeOkRow.holds Try.pinned (OpenSpec.ofChange fnExactTreeOkSpec)

/-- ITS FALSE NEIGHBOUR: 'it returns false'. Refute it at one input. -/
def fnExactTreeOkWrong : ChangeSpec := { name := "fnExactTreeOk", fn := fun _ => fun
  | [d] => { results := [.lit (.bool false)], args := [d] }
  | _ => none }
def FnExactTreeOkWrongFalsely : Prop := fnExactTreeOkRow.holds Try.pinned (OpenSpec.ofChange fnExactTreeOkWrong)

/-- 'laws.FnExactTreeFind': WHATEVER THE INPUT: true; the input reads as it did. -/
def fnExactTreeFindSpec : ChangeSpec := { name := "fnExactTreeFind", fn := fun _ => fun
  | [d1, d2] => { results := [.lit (.bool true)], args := [d1, d2] }
  | _ => none }
def fnExactTreeFindRow : OpenClaim := { program := "ytaebcaajcolnfac", sum := "32300b9d7598ca2d8feed9f02cf3f292433c6a95231bac57f504e9cbda5d5e93", func := "loop.example/donjon/laws.FnExactTreeFind", spec := "fnExactTreeFind", unfollowed := true, recurses := true, apart := false }
def FnExactTreeFindSaid : Prop := fnExactTreeFindRow.holds Try.pinned (OpenSpec.ofChange fnExactTreeFindSpec)

/-- ITS FALSE NEIGHBOUR: 'it returns false'. Refute it at one input. -/
def fnExactTreeFindWrong : ChangeSpec := { name := "fnExactTreeFind", fn := fun _ => fun
  | [d1, d2] => { results := [.lit (.bool false)], args := [d1, d2] }
  | _ => none }
def FnExactTreeFindWrongFalsely : Prop := fnExactTreeFindRow.holds Try.pinned (OpenSpec.ofChange fnExactTreeFindWrong)

/-- 'laws.FnExactTreeEnd': WHATEVER THE INPUT: true; the input reads as it did. -/
def fnExactTreeEndSpec : ChangeSpec := { name := "fnExactTreeEnd", fn := fun _ => fun
  | [d1, d2] => { results := [.lit (.bool true)], args := [d1, d2] }
  | _ => none }
def fnExactTreeEndRow : OpenClaim := { program := "ytaebcaajcolnfac", sum := "32300b9d7598ca2d8feed9f02cf3f292433c6a95231bac57f504e9cbda5d5e93", func := "loop.example/donjon/laws.FnExactTreeEnd", spec := "fnExactTreeEnd", unfollowed := true, recurses := true, apart := false }
def FnExactTreeEndSaid : Prop := fnExactTreeEndRow.holds Try.pinned (OpenSpec.ofChange fnExactTreeEndSpec)

/-- ITS FALSE NEIGHBOUR: 'it returns false'. Refute it at one input. -/
def fnExactTreeEndWrong : ChangeSpec := { name := "fnExactTreeEnd", fn := fun _ => fun
  | [d1, d2] => { results := [.lit (.bool false)], args := [d1, d2] }
  | _ => none }
def FnExactTreeEndWrongFalsely : Prop := fnExactTreeEndRow.holds Try.pinned (OpenSpec.ofChange fnExactTreeEndWrong)

/-- 'laws.FnExactTreeUp': WHATEVER THE INPUT: true; the input reads as it did. -/
def fnExactTreeUpSpec : ChangeSpec := { name := "fnExactTreeUp", fn := fun _ => fun
  | [d1, d2] => { results := [.lit (.bool true)], args := [d1, d2] }
  | _ => none }
def fnExactTreeUpRow : OpenClaim := { program := "ytaebcaajcolnfac", sum := "32300b9d7598ca2d8feed9f02cf3f292433c6a95231bac57f504e9cbda5d5e93", func := "loop.example/donjon/laws.FnExactTreeUp", spec := "fnExactTreeUp", unfollowed := true, recurses := true, apart := false }
def FnExactTreeUpSaid : Prop := fnExactTreeUpRow.holds Try.pinned (OpenSpec.ofChange fnExactTreeUpSpec)

/-- ITS FALSE NEIGHBOUR: 'it returns false'. Refute it at one input. -/
def fnExactTreeUpWrong : ChangeSpec := { name := "fnExactTreeUp", fn := fun _ => fun
  | [d1, d2] => { results := [.lit (.bool false)], args := [d1, d2] }
  | _ => none }
def FnExactTreeUpWrongFalsely : Prop := fnExactTreeUpRow.holds Try.pinned (OpenSpec.ofChange fnExactTreeUpWrong)

/-- 'laws.FnExactTreeLeaf': WHATEVER THE INPUT: true; the input reads as it did. -/
def fnExactTreeLeafSpec : ChangeSpec := { name := "fnExactTreeLeaf", fn := fun _ => fun
  | [d1, d2] => { results := [.lit (.bool true)], args := [d1, d2] }
  | _ => none }
def fnExactTreeLeafRow : OpenClaim := { program := "ytaebcaajcolnfac", sum := "32300b9d7598ca2d8feed9f02cf3f292433c6a95231bac57f504e9cbda5d5e93", func := "loop.example/donjon/laws.FnExactTreeLeaf", spec := "fnExactTreeLeaf", unfollowed := true, recurses := true, apart := false }
def FnExactTreeLeafSaid : Prop := fnExactTreeLeafRow.holds Try.pinned (OpenSpec.ofChange fnExactTreeLeafSpec)

/-- ITS FALSE NEIGHBOUR: 'it returns false'. Refute it at one input. -/
def fnExactTreeLeafWrong : ChangeSpec := { name := "fnExactTreeLeaf", fn := fun _ => fun
  | [d1, d2] => { results := [.lit (.bool false)], args := [d1, d2] }
  | _ => none }
def FnExactTreeLeafWrongFalsely : Prop := fnExactTreeLeafRow.holds Try.pinned (OpenSpec.ofChange fnExactTreeLeafWrong)

/-- 'laws.FnExactTreeAbove': WHATEVER THE INPUT: true; the input reads as it did. -/
def fnExactTreeAboveSpec : ChangeSpec := { name := "fnExactTreeAbove", fn := fun _ => fun
  | [d1, d2, d3] => { results := [.lit (.bool true)], args := [d1, d2, d3] }
  | _ => none }
def fnExactTreeAboveRow : OpenClaim := { program := "ytaebcaajcolnfac", sum := "32300b9d7598ca2d8feed9f02cf3f292433c6a95231bac57f504e9cbda5d5e93", func := "loop.example/donjon/laws.FnExactTreeAbove", spec := "fnExactTreeAbove", unfollowed := true, recurses := true, apart := false }
def FnExactTreeAboveSaid : Prop := fnExactTreeAboveRow.holds Try.pinned (OpenSpec.ofChange fnExactTreeAboveSpec)

/-- ITS FALSE NEIGHBOUR: 'it returns false'. Refute it at one input. -/
def fnExactTreeAboveWrong : ChangeSpec := { name := "fnExactTreeAbove", fn := fun _ => fun
  | [d1, d2, d3] => { results := [.lit (.bool false)], args := [d1, d2, d3] }
  | _ => none }
def FnExactTreeAboveWrongFalsely : Prop := fnExactTreeAboveRow.holds Try.pinned (OpenSpec.ofChange fnExactTreeAboveWrong)

/- THE SECOND FORM. 'bulk': how many values and letters a reading holds, each counted each time it is reached (what is shared counts as often as it is met; a slice's spare places count too). A statement '..UptoSaid' is the law's where the arguments, and the package variables that the reading takes, are together of bulk at most 1048576: NARROWER than '..Said'. Prove '..Said' where nothing that the law and all that it calls make is longer than what came in: it says more and counts as full. Else prove '..UptoSaid'. A law counts once. -/
mutual
def uptoBulk {H : Type} : DataW H → Nat
  | .lit (.string bytes) => bytes.length + 1
  | .lit _ => 1
  | .nil => 1
  | .ptr d => uptoBulk d + 1
  | .slice elems spare => uptoBulkAll elems + uptoBulkAll spare + 1
  | .agg parts => uptoBulkAll parts + 1
  | .iface _ d => uptoBulk d + 1
  | .map entries => uptoBulkEntries entries + 1
  | .held _ => 1
def uptoBulkAll {H : Type} : List (DataW H) → Nat
  | [] => 0
  | d :: r => uptoBulk d + uptoBulkAll r
def uptoBulkEntries {H : Type} : List (Lit × DataW H) → Nat
  | [] => 0
  | x :: r => uptoBulkEntry x + uptoBulkEntries r
def uptoBulkEntry {H : Type} : Lit × DataW H → Nat
  | (.string bytes, d) => bytes.length + uptoBulk d + 1
  | (_, d) => uptoBulk d + 1
 end
def uptoSmall : (H : Type) → List (DataW H) → Bool := fun _ ds => decide (uptoBulkAll ds ≤ 1048576)
def OpenSpec.upto (s : _root_.Go.ChangeSpec) : _root_.Go.OpenSpec := { _root_.Go.OpenSpec.ofChange s with cond := some uptoSmall }

/-- 'laws.FnExactTreeOk', WHERE WHAT IT READS IS OF BULK AT MOST 1048576: true; the input reads as it did. -/
def fnExactTreeOkUptoRow : OpenClaim := { program := "ytaebcaajcolnfac", sum := "32300b9d7598ca2d8feed9f02cf3f292433c6a95231bac57f504e9cbda5d5e93", func := "loop.example/donjon/laws.FnExactTreeOk", spec := "fnExactTreeOk", unfollowed := true, recurses := true, apart := false, narrowed := true }
def FnExactTreeOkUptoSaid : Prop := fnExactTreeOkUptoRow.holds Try.pinned (OpenSpec.upto fnExactTreeOkSpec)

/-- 'laws.FnExactTreeFind', WHERE WHAT IT READS IS OF BULK AT MOST 1048576: true; the input reads as it did. -/
def fnExactTreeFindUptoRow : OpenClaim := { program := "ytaebcaajcolnfac", sum := "32300b9d7598ca2d8feed9f02cf3f292433c6a95231bac57f504e9cbda5d5e93", func := "loop.example/donjon/laws.FnExactTreeFind", spec := "fnExactTreeFind", unfollowed := true, recurses := true, apart := false, narrowed := true }
def FnExactTreeFindUptoSaid : Prop := fnExactTreeFindUptoRow.holds Try.pinned (OpenSpec.upto fnExactTreeFindSpec)

/-- 'laws.FnExactTreeEnd', WHERE WHAT IT READS IS OF BULK AT MOST 1048576: true; the input reads as it did. -/
def fnExactTreeEndUptoRow : OpenClaim := { program := "ytaebcaajcolnfac", sum := "32300b9d7598ca2d8feed9f02cf3f292433c6a95231bac57f504e9cbda5d5e93", func := "loop.example/donjon/laws.FnExactTreeEnd", spec := "fnExactTreeEnd", unfollowed := true, recurses := true, apart := false, narrowed := true }
def FnExactTreeEndUptoSaid : Prop := fnExactTreeEndUptoRow.holds Try.pinned (OpenSpec.upto fnExactTreeEndSpec)

/-- 'laws.FnExactTreeUp', WHERE WHAT IT READS IS OF BULK AT MOST 1048576: true; the input reads as it did. -/
def fnExactTreeUpUptoRow : OpenClaim := { program := "ytaebcaajcolnfac", sum := "32300b9d7598ca2d8feed9f02cf3f292433c6a95231bac57f504e9cbda5d5e93", func := "loop.example/donjon/laws.FnExactTreeUp", spec := "fnExactTreeUp", unfollowed := true, recurses := true, apart := false, narrowed := true }
def FnExactTreeUpUptoSaid : Prop := fnExactTreeUpUptoRow.holds Try.pinned (OpenSpec.upto fnExactTreeUpSpec)

/-- 'laws.FnExactTreeLeaf', WHERE WHAT IT READS IS OF BULK AT MOST 1048576: true; the input reads as it did. -/
def fnExactTreeLeafUptoRow : OpenClaim := { program := "ytaebcaajcolnfac", sum := "32300b9d7598ca2d8feed9f02cf3f292433c6a95231bac57f504e9cbda5d5e93", func := "loop.example/donjon/laws.FnExactTreeLeaf", spec := "fnExactTreeLeaf", unfollowed := true, recurses := true, apart := false, narrowed := true }
def FnExactTreeLeafUptoSaid : Prop := fnExactTreeLeafUptoRow.holds Try.pinned (OpenSpec.upto fnExactTreeLeafSpec)

/-- 'laws.FnExactTreeAbove', WHERE WHAT IT READS IS OF BULK AT MOST 1048576: true; the input reads as it did. -/
def fnExactTreeAboveUptoRow : OpenClaim := { program := "ytaebcaajcolnfac", sum := "32300b9d7598ca2d8feed9f02cf3f292433c6a95231bac57f504e9cbda5d5e93", func := "loop.example/donjon/laws.FnExactTreeAbove", spec := "fnExactTreeAbove", unfollowed := true, recurses := true, apart := false, narrowed := true }
def FnExactTreeAboveUptoSaid : Prop := fnExactTreeAboveUptoRow.holds Try.pinned (OpenSpec.upto fnExactTreeAboveSpec)

end Rows
end Go.Proofs.Ytaebcaajcolnfac
