/-
  No cell of these rows narrows 'for every input' (looked for: loops, veiled, ifaces, maps, wideKeys, modest, calm, conditions, laid).
  DERIVED. THE GIVEN ROWS OF THIS SEAT. 5 by the template 'for every input the law returns true; each argument reads behind the call as it read before'; 0 by the template 'total and deterministic' (their statements: YtaebcaajcolnfaaTotals.lean).
  GIVEN WITH THE SEED: the statements are not yours to turn. If you find one false, say at which input.
  Laid BY PROGRAM, IN A SANDBOX (cutbox-rows.mjs): the forced cells as the released guide's own fill.sh prints them over the translation ac55789760e4170e… (all of the seat's roots in one cut). By AI agents, Wed Nov 11 2026. No macro, syntax, notation, axiom, sorry.
-/
import Derived.Test.YtaebcaajcolnfaaChecked
import GoSem.Claim
import GoSem.ClaimJoined
import GoSem.ClaimMapViews
import Derived.JoinedTies
import Derived.KernelRfl
namespace Go.Proofs.Ytaebcaajcolnfaa
/- THE CELL 'sum', in the pinned program and in every row, IS THE sha256 OF THE DUMP (.gsa) THAT YtaebcaajcolnfaaProg.lean LOADS. Nothing in Lean hashes anything: it is a label: what it is worth is what the hold of that sum in a sandbox is worth. -/
noncomputable def Try.pinned : Pinned := { name := "ytaebcaajcolnfaa", sum := "ac55789760e4170effc18c4c76dd0d8b07b5e42f43fd47b2ecdc5b02bffb4500", checked := Try.checked }
namespace Rows
def none {H : Type} : Left H := { results := [], args := [] }

/-- 'laws.FnRange': WHATEVER THE INPUT: true; the input reads as it did. -/
def fnRangeSpec : ChangeSpec := { name := "fnRange", fn := fun _ => fun
  | [d] => { results := [.lit (.bool true)], args := [d] }
  | _ => none }
def fnRangeRow : OpenClaim := { program := "ytaebcaajcolnfaa", sum := "ac55789760e4170effc18c4c76dd0d8b07b5e42f43fd47b2ecdc5b02bffb4500", func := "loop.example/donjon/laws.FnRange", spec := "fnRange", apart := false }
def FnRangeSaid : Prop := fnRangeRow.holds Try.pinned (OpenSpec.ofChange fnRangeSpec)

/-- ITS FALSE NEIGHBOUR: 'it returns false'. Refute it at one input. -/
def fnRangeWrong : ChangeSpec := { name := "fnRange", fn := fun _ => fun
  | [d] => { results := [.lit (.bool false)], args := [d] }
  | _ => none }
def FnRangeWrongFalsely : Prop := fnRangeRow.holds Try.pinned (OpenSpec.ofChange fnRangeWrong)

/-- 'laws.FnCapBelow': WHATEVER THE INPUT: true; the input reads as it did. -/
def fnCapBelowSpec : ChangeSpec := { name := "fnCapBelow", fn := fun _ => fun
  | [d1, d2] => { results := [.lit (.bool true)], args := [d1, d2] }
  | _ => none }
def fnCapBelowRow : OpenClaim := { program := "ytaebcaajcolnfaa", sum := "ac55789760e4170effc18c4c76dd0d8b07b5e42f43fd47b2ecdc5b02bffb4500", func := "loop.example/donjon/laws.FnCapBelow", spec := "fnCapBelow", unfollowed := true, recurses := true, apart := false }
def FnCapBelowSaid : Prop := fnCapBelowRow.holds Try.pinned (OpenSpec.ofChange fnCapBelowSpec)

/-- ITS FALSE NEIGHBOUR: 'it returns false'. Refute it at one input. -/
def fnCapBelowWrong : ChangeSpec := { name := "fnCapBelow", fn := fun _ => fun
  | [d1, d2] => { results := [.lit (.bool false)], args := [d1, d2] }
  | _ => none }
def FnCapBelowWrongFalsely : Prop := fnCapBelowRow.holds Try.pinned (OpenSpec.ofChange fnCapBelowWrong)

/-- 'laws.FnExactWordIn': WHATEVER THE INPUT: true; the input reads as it did. -/
def fnExactWordInSpec : ChangeSpec := { name := "fnExactWordIn", fn := fun _ => fun
  | [d1, d2, d3, d4] => { results := [.lit (.bool true)], args := [d1, d2, d3, d4] }
  | _ => none }
def fnExactWordInRow : OpenClaim := { program := "ytaebcaajcolnfaa", sum := "ac55789760e4170effc18c4c76dd0d8b07b5e42f43fd47b2ecdc5b02bffb4500", func := "loop.example/donjon/laws.FnExactWordIn", spec := "fnExactWordIn", apart := false }
def FnExactWordInSaid : Prop := fnExactWordInRow.holds Try.pinned (OpenSpec.ofChange fnExactWordInSpec)

/-- ITS FALSE NEIGHBOUR: 'it returns false'. Refute it at one input. -/
def fnExactWordInWrong : ChangeSpec := { name := "fnExactWordIn", fn := fun _ => fun
  | [d1, d2, d3, d4] => { results := [.lit (.bool false)], args := [d1, d2, d3, d4] }
  | _ => none }
def FnExactWordInWrongFalsely : Prop := fnExactWordInRow.holds Try.pinned (OpenSpec.ofChange fnExactWordInWrong)

/-- 'laws.FnExactCapOk': WHATEVER THE INPUT: true; the input reads as it did. -/
def fnExactCapOkSpec : ChangeSpec := { name := "fnExactCapOk", fn := fun _ => fun
  | [d] => { results := [.lit (.bool true)], args := [d] }
  | _ => none }
def fnExactCapOkRow : OpenClaim := { program := "ytaebcaajcolnfaa", sum := "ac55789760e4170effc18c4c76dd0d8b07b5e42f43fd47b2ecdc5b02bffb4500", func := "loop.example/donjon/laws.FnExactCapOk", spec := "fnExactCapOk", unfollowed := true, recurses := true, apart := false }
def FnExactCapOkSaid : Prop := fnExactCapOkRow.holds Try.pinned (OpenSpec.ofChange fnExactCapOkSpec)

/-- ITS FALSE NEIGHBOUR: 'it returns false'. Refute it at one input. -/
def fnExactCapOkWrong : ChangeSpec := { name := "fnExactCapOk", fn := fun _ => fun
  | [d] => { results := [.lit (.bool false)], args := [d] }
  | _ => none }
def FnExactCapOkWrongFalsely : Prop := fnExactCapOkRow.holds Try.pinned (OpenSpec.ofChange fnExactCapOkWrong)

/-- 'laws.FnExactCapPack': WHATEVER THE INPUT: true; the input reads as it did. -/
def fnExactCapPackSpec : ChangeSpec := { name := "fnExactCapPack", fn := fun _ => fun
  | [d] => { results := [.lit (.bool true)], args := [d] }
  | _ => none }
def fnExactCapPackRow : OpenClaim := { program := "ytaebcaajcolnfaa", sum := "ac55789760e4170effc18c4c76dd0d8b07b5e42f43fd47b2ecdc5b02bffb4500", func := "loop.example/donjon/laws.FnExactCapPack", spec := "fnExactCapPack", unfollowed := true, recurses := true, apart := false }
def FnExactCapPackSaid : Prop := fnExactCapPackRow.holds Try.pinned (OpenSpec.ofChange fnExactCapPackSpec)

/-- ITS FALSE NEIGHBOUR: 'it returns false'. Refute it at one input. -/
def fnExactCapPackWrong : ChangeSpec := { name := "fnExactCapPack", fn := fun _ => fun
  | [d] => { results := [.lit (.bool false)], args := [d] }
  | _ => none }
def FnExactCapPackWrongFalsely : Prop := fnExactCapPackRow.holds Try.pinned (OpenSpec.ofChange fnExactCapPackWrong)

/- THE SECOND FORM. 'bulk': how many values and letters a reading holds, each counted each time it is reached (what is shared counts as often as it is met; a slice's spare places count too). A statement '..UptoSaid' is the law's where the arguments, and the package variables that the reading takes, are together of bulk at most 1048576: NARROWER than '..Said'. Prove '..Said' where nothing that the law and all that it calls make is longer than what came in: it says more and counts as full. Else prove '..UptoSaid'. A law counts once. -/
mutual
def uptoBulk {H : Type} : DataW H → Nat
  | .lit (.string bytes) => bytes.length + 1
  | .lit _ => 1
  | .nil => 1
  | .ptr d => uptoBulk d + 1
  | .slice elems spare => uptoBulkAll elems + uptoBulkAll spare + 1
  | .agg parts => uptoBulkAll parts + 1
  | .iface _ d => uptoBulk d + 1
  | .map entries => uptoBulkEntries entries + 1
  | .held _ => 1
def uptoBulkAll {H : Type} : List (DataW H) → Nat
  | [] => 0
  | d :: r => uptoBulk d + uptoBulkAll r
def uptoBulkEntries {H : Type} : List (Lit × DataW H) → Nat
  | [] => 0
  | x :: r => uptoBulkEntry x + uptoBulkEntries r
def uptoBulkEntry {H : Type} : Lit × DataW H → Nat
  | (.string bytes, d) => bytes.length + uptoBulk d + 1
  | (_, d) => uptoBulk d + 1
 end
def uptoSmall : (H : Type) → List (DataW H) → Bool := fun _ ds => decide (uptoBulkAll ds ≤ 1048576)
def OpenSpec.upto (s : _root_.Go.ChangeSpec) : _root_.Go.OpenSpec := { _root_.Go.OpenSpec.ofChange s with cond := some uptoSmall }

/-- 'laws.FnRange', WHERE WHAT IT READS IS OF BULK AT MOST 1048576: true; the input reads as it did. -/
def fnRangeUptoRow : OpenClaim := { program := "ytaebcaajcolnfaa", sum := "ac55789760e4170effc18c4c76dd0d8b07b5e42f43fd47b2ecdc5b02bffb4500", func := "loop.example/donjon/laws.FnRange", spec := "fnRange", apart := false, narrowed := true }
def FnRangeUptoSaid : Prop := fnRangeUptoRow.holds Try.pinned (OpenSpec.upto fnRangeSpec)

/-- 'laws.FnCapBelow', WHERE WHAT IT READS IS OF BULK AT MOST 1048576: true; the input reads as it did. -/
def fnCapBelowUptoRow : OpenClaim := { program := "ytaebcaajcolnfaa", sum := "ac55789760e4170effc18c4c76dd0d8b07b5e42f43fd47b2ecdc5b02bffb4500", func := "loop.example/donjon/laws.FnCapBelow", spec := "fnCapBelow", unfollowed := true, recurses := true, apart := false, narrowed := true }
def FnCapBelowUptoSaid : Prop := fnCapBelowUptoRow.holds Try.pinned (OpenSpec.upto fnCapBelowSpec)

/-- 'laws.FnExactWordIn', WHERE WHAT IT READS IS OF BULK AT MOST 1048576: true; the input reads as it did. -/
def fnExactWordInUptoRow : OpenClaim := { program := "ytaebcaajcolnfaa", sum := "ac55789760e4170effc18c4c76dd0d8b07b5e42f43fd47b2ecdc5b02bffb4500", func := "loop.example/donjon/laws.FnExactWordIn", spec := "fnExactWordIn", apart := false, narrowed := true }
def FnExactWordInUptoSaid : Prop := fnExactWordInUptoRow.holds Try.pinned (OpenSpec.upto fnExactWordInSpec)

/-- 'laws.FnExactCapOk', WHERE WHAT IT READS IS OF BULK AT MOST 1048576: true; the input reads as it did. -/
def fnExactCapOkUptoRow : OpenClaim := { program := "ytaebcaajcolnfaa", sum := "ac55789760e4170effc18c4c76dd0d8b07b5e42f43fd47b2ecdc5b02bffb4500", func := "loop.example/donjon/laws.FnExactCapOk", spec := "fnExactCapOk", unfollowed := true, recurses := true, apart := false, narrowed := true }
def FnExactCapOkUptoSaid : Prop := fnExactCapOkUptoRow.holds Try.pinned (OpenSpec.upto fnExactCapOkSpec)

/-- 'laws.FnExactCapPack', WHERE WHAT IT READS IS OF BULK AT MOST 1048576: true; the input reads as it did. -/
def fnExactCapPackUptoRow : OpenClaim := { program := "ytaebcaajcolnfaa", sum := "ac55789760e4170effc18c4c76dd0d8b07b5e42f43fd47b2ecdc5b02bffb4500", func := "loop.example/donjon/laws.FnExactCapPack", spec := "fnExactCapPack", unfollowed := true, recurses := true, apart := false, narrowed := true }
def FnExactCapPackUptoSaid : Prop := fnExactCapPackUptoRow.holds Try.pinned (OpenSpec.upto fnExactCapPackSpec)

end Rows
end Go.Proofs.Ytaebcaajcolnfaa
