/-
  No cell of these rows narrows 'for every input' (looked for: loops, veiled, ifaces, maps, wideKeys, modest, calm, conditions, laid).
  DERIVED. THE GIVEN ROWS OF THIS SEAT. 4 by the template 'for every input the law returns true; each argument reads behind the call as it read before'; 0 by the template 'total and deterministic' (their statements: YtaebcaajcolnfabTotals.lean).
  GIVEN WITH THE SEED: the statements are not yours to turn. If you find one false, say at which input.
  Laid BY PROGRAM, IN A SANDBOX (cutbox-rows.mjs): the forced cells as the released guide's own fill.sh prints them over the translation ce4c5d6148196baf… (all of the seat's roots in one cut). By AI agents, Wed Nov 11 2026. No macro, syntax, notation, axiom, sorry.
-/
import Derived.Test.YtaebcaajcolnfabChecked
import GoSem.Claim
import GoSem.ClaimJoined
import GoSem.ClaimMapViews
import Derived.JoinedTies
import Derived.KernelRfl
namespace Go.Proofs.Ytaebcaajcolnfab
/- THE CELL 'sum', in the pinned program and in every row, IS THE sha256 OF THE DUMP (.gsa) THAT YtaebcaajcolnfabProg.lean LOADS. Nothing in Lean hashes anything: it is a label: what it is worth is what the hold of that sum in a sandbox is worth. -/
noncomputable def Try.pinned : Pinned := { name := "ytaebcaajcolnfab", sum := "ce4c5d6148196bafa95f685c8520d4902813391bc814c22fb127eb394a4f9dce", checked := Try.checked }
namespace Rows
def none {H : Type} : Left H := { results := [], args := [] }

/-- 'laws.FnExactCapUnpack': WHATEVER THE INPUT: true; the input reads as it did. -/
def fnExactCapUnpackSpec : ChangeSpec := { name := "fnExactCapUnpack", fn := fun _ => fun
  | [d1, d2] => { results := [.lit (.bool true)], args := [d1, d2] }
  | _ => none }
def fnExactCapUnpackRow : OpenClaim := { program := "ytaebcaajcolnfab", sum := "ce4c5d6148196bafa95f685c8520d4902813391bc814c22fb127eb394a4f9dce", func := "loop.example/donjon/laws.FnExactCapUnpack", spec := "fnExactCapUnpack", unfollowed := true, recurses := true, apart := false }
def FnExactCapUnpackSaid : Prop := fnExactCapUnpackRow.holds Try.pinned (OpenSpec.ofChange fnExactCapUnpackSpec)

/-- ITS FALSE NEIGHBOUR: 'it returns false'. Refute it at one input. -/
def fnExactCapUnpackWrong : ChangeSpec := { name := "fnExactCapUnpack", fn := fun _ => fun
  | [d1, d2] => { results := [.lit (.bool false)], args := [d1, d2] }
  | _ => none }
def FnExactCapUnpackWrongFalsely : Prop := fnExactCapUnpackRow.holds Try.pinned (OpenSpec.ofChange fnExactCapUnpackWrong)

/-- 'laws.FnExactCapCopy': WHATEVER THE INPUT: true; the input reads as it did. -/
def fnExactCapCopySpec : ChangeSpec := { name := "fnExactCapCopy", fn := fun _ => fun
  | [d1, d2] => { results := [.lit (.bool true)], args := [d1, d2] }
  | _ => none }
def fnExactCapCopyRow : OpenClaim := { program := "ytaebcaajcolnfab", sum := "ce4c5d6148196bafa95f685c8520d4902813391bc814c22fb127eb394a4f9dce", func := "loop.example/donjon/laws.FnExactCapCopy", spec := "fnExactCapCopy", unfollowed := true, recurses := true, apart := false }
def FnExactCapCopySaid : Prop := fnExactCapCopyRow.holds Try.pinned (OpenSpec.ofChange fnExactCapCopySpec)

/-- ITS FALSE NEIGHBOUR: 'it returns false'. Refute it at one input. -/
def fnExactCapCopyWrong : ChangeSpec := { name := "fnExactCapCopy", fn := fun _ => fun
  | [d1, d2] => { results := [.lit (.bool false)], args := [d1, d2] }
  | _ => none }
def FnExactCapCopyWrongFalsely : Prop := fnExactCapCopyRow.holds Try.pinned (OpenSpec.ofChange fnExactCapCopyWrong)

/-- 'laws.FnExactCapMint': WHATEVER THE INPUT: true; the input reads as it did. -/
def fnExactCapMintSpec : ChangeSpec := { name := "fnExactCapMint", fn := fun _ => fun
  | [d1, d2, d3] => { results := [.lit (.bool true)], args := [d1, d2, d3] }
  | _ => none }
def fnExactCapMintRow : OpenClaim := { program := "ytaebcaajcolnfab", sum := "ce4c5d6148196bafa95f685c8520d4902813391bc814c22fb127eb394a4f9dce", func := "loop.example/donjon/laws.FnExactCapMint", spec := "fnExactCapMint", unfollowed := true, recurses := true, apart := false }
def FnExactCapMintSaid : Prop := fnExactCapMintRow.holds Try.pinned (OpenSpec.ofChange fnExactCapMintSpec)

/-- ITS FALSE NEIGHBOUR: 'it returns false'. Refute it at one input. -/
def fnExactCapMintWrong : ChangeSpec := { name := "fnExactCapMint", fn := fun _ => fun
  | [d1, d2, d3] => { results := [.lit (.bool false)], args := [d1, d2, d3] }
  | _ => none }
def FnExactCapMintWrongFalsely : Prop := fnExactCapMintRow.holds Try.pinned (OpenSpec.ofChange fnExactCapMintWrong)

/-- 'laws.FnExactCapBelow': WHATEVER THE INPUT: true; the input reads as it did. -/
def fnExactCapBelowSpec : ChangeSpec := { name := "fnExactCapBelow", fn := fun _ => fun
  | [d1, d2] => { results := [.lit (.bool true)], args := [d1, d2] }
  | _ => none }
def fnExactCapBelowRow : OpenClaim := { program := "ytaebcaajcolnfab", sum := "ce4c5d6148196bafa95f685c8520d4902813391bc814c22fb127eb394a4f9dce", func := "loop.example/donjon/laws.FnExactCapBelow", spec := "fnExactCapBelow", unfollowed := true, recurses := true, apart := false }
def FnExactCapBelowSaid : Prop := fnExactCapBelowRow.holds Try.pinned (OpenSpec.ofChange fnExactCapBelowSpec)

/-- ITS FALSE NEIGHBOUR: 'it returns false'. Refute it at one input. -/
def fnExactCapBelowWrong : ChangeSpec := { name := "fnExactCapBelow", fn := fun _ => fun
  | [d1, d2] => { results := [.lit (.bool false)], args := [d1, d2] }
  | _ => none }
def FnExactCapBelowWrongFalsely : Prop := fnExactCapBelowRow.holds Try.pinned (OpenSpec.ofChange fnExactCapBelowWrong)

/- THE SECOND FORM. 'bulk': how many values and letters a reading holds, each counted each time it is reached (what is shared counts as often as it is met; a slice's spare places count too). A statement '..UptoSaid' is the law's where the arguments, and the package variables that the reading takes, are together of bulk at most 1048576: NARROWER than '..Said'. Prove '..Said' where nothing that the law and all that it calls make is longer than what came in: it says more and counts as full. Else prove '..UptoSaid'. A law counts once. -/
mutual
def uptoBulk {H : Type} : DataW H → Nat
  | .lit (.string bytes) => bytes.length + 1
  | .lit _ => 1
  | .nil => 1
  | .ptr d => uptoBulk d + 1
  | .slice elems spare => uptoBulkAll elems + uptoBulkAll spare + 1
  | .agg parts => uptoBulkAll parts + 1
  | .iface _ d => uptoBulk d + 1
  | .map entries => uptoBulkEntries entries + 1
  | .held _ => 1
def uptoBulkAll {H : Type} : List (DataW H) → Nat
  | [] => 0
  | d :: r => uptoBulk d + uptoBulkAll r
def uptoBulkEntries {H : Type} : List (Lit × DataW H) → Nat
  | [] => 0
  | x :: r => uptoBulkEntry x + uptoBulkEntries r
def uptoBulkEntry {H : Type} : Lit × DataW H → Nat
  | (.string bytes, d) => bytes.length + uptoBulk d + 1
  | (_, d) => uptoBulk d + 1
 end
def uptoSmall : (H : Type) → List (DataW H) → Bool := fun _ ds => decide (uptoBulkAll ds ≤ 1048576)
def OpenSpec.upto (s : _root_.Go.ChangeSpec) : _root_.Go.OpenSpec := { _root_.Go.OpenSpec.ofChange s with cond := some uptoSmall }

/-- 'laws.FnExactCapUnpack', WHERE WHAT IT READS IS OF BULK AT MOST 1048576: true; the input reads as it did. -/
def fnExactCapUnpackUptoRow : OpenClaim := { program := "ytaebcaajcolnfab", sum := "ce4c5d6148196bafa95f685c8520d4902813391bc814c22fb127eb394a4f9dce", func := "loop.example/donjon/laws.FnExactCapUnpack", spec := "fnExactCapUnpack", unfollowed := true, recurses := true, apart := false, narrowed := true }
def FnExactCapUnpackUptoSaid : Prop := fnExactCapUnpackUptoRow.holds Try.pinned (OpenSpec.upto fnExactCapUnpackSpec)

/-- 'laws.FnExactCapCopy', WHERE WHAT IT READS IS OF BULK AT MOST 1048576: true; the input reads as it did. -/
def fnExactCapCopyUptoRow : OpenClaim := { program := "ytaebcaajcolnfab", sum := "ce4c5d6148196bafa95f685c8520d4902813391bc814c22fb127eb394a4f9dce", func := "loop.example/donjon/laws.FnExactCapCopy", spec := "fnExactCapCopy", unfollowed := true, recurses := true, apart := false, narrowed := true }
def FnExactCapCopyUptoSaid : Prop := fnExactCapCopyUptoRow.holds Try.pinned (OpenSpec.upto fnExactCapCopySpec)

/-- 'laws.FnExactCapMint', WHERE WHAT IT READS IS OF BULK AT MOST 1048576: true; the input reads as it did. -/
def fnExactCapMintUptoRow : OpenClaim := { program := "ytaebcaajcolnfab", sum := "ce4c5d6148196bafa95f685c8520d4902813391bc814c22fb127eb394a4f9dce", func := "loop.example/donjon/laws.FnExactCapMint", spec := "fnExactCapMint", unfollowed := true, recurses := true, apart := false, narrowed := true }
def FnExactCapMintUptoSaid : Prop := fnExactCapMintUptoRow.holds Try.pinned (OpenSpec.upto fnExactCapMintSpec)

/-- 'laws.FnExactCapBelow', WHERE WHAT IT READS IS OF BULK AT MOST 1048576: true; the input reads as it did. -/
def fnExactCapBelowUptoRow : OpenClaim := { program := "ytaebcaajcolnfab", sum := "ce4c5d6148196bafa95f685c8520d4902813391bc814c22fb127eb394a4f9dce", func := "loop.example/donjon/laws.FnExactCapBelow", spec := "fnExactCapBelow", unfollowed := true, recurses := true, apart := false, narrowed := true }
def FnExactCapBelowUptoSaid : Prop := fnExactCapBelowUptoRow.holds Try.pinned (OpenSpec.upto fnExactCapBelowSpec)

end Rows
end Go.Proofs.Ytaebcaajcolnfab
