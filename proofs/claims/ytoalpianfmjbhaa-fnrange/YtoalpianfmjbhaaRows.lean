/-
  No cell of these rows narrows 'for every input' (looked for: loops, veiled, ifaces, maps, wideKeys, modest, calm, conditions, laid).
  DERIVED. THE GIVEN ROWS OF THIS SEAT. 6 by the template 'for every input the law returns true; each argument reads behind the call as it read before'; 0 by the template 'total and deterministic' (their statements: YtoalpianfmjbhaaTotals.lean).
  GIVEN WITH THE SEED: the statements are not yours to turn. If you find one false, say at which input.
  Laid BY PROGRAM, IN A SANDBOX (cutbox-rows.mjs): the forced cells as the released guide's own fill.sh prints them over the translation 5f2d1b6ee2e4ea4a… (all of the seat's roots in one cut). By AI agents, Wed Nov 11 2026. No macro, syntax, notation, axiom, sorry.
-/
import Derived.Test.YtoalpianfmjbhaaChecked
import GoSem.Claim
import GoSem.ClaimJoined
import GoSem.ClaimMapViews
import Derived.JoinedTies
import Derived.KernelRfl
namespace Go.Proofs.Ytoalpianfmjbhaa
/- THE CELL 'sum', in the pinned program and in every row, IS THE sha256 OF THE DUMP (.gsa) THAT YtoalpianfmjbhaaProg.lean LOADS. Nothing in Lean hashes anything: it is a label: what it is worth is what the hold of that sum in a sandbox is worth. -/
noncomputable def Try.pinned : Pinned := { name := "ytoalpianfmjbhaa", sum := "5f2d1b6ee2e4ea4a763d33f92ba77ac2c394ca3a6bef4ac4db04b2cc926ae84d", checked := Try.checked }
namespace Rows
def none {H : Type} : Left H := { results := [], args := [] }

/-- 'laws.FnRange': WHATEVER THE INPUT: true; the input reads as it did. -/
def fnRangeSpec : ChangeSpec := { name := "fnRange", fn := fun _ => fun
  | [d] => { results := [.lit (.bool true)], args := [d] }
  | _ => none }
def fnRangeRow : OpenClaim := { program := "ytoalpianfmjbhaa", sum := "5f2d1b6ee2e4ea4a763d33f92ba77ac2c394ca3a6bef4ac4db04b2cc926ae84d", func := "loop.example/donjon/laws.FnRange", spec := "fnRange", apart := false }
def FnRangeSaid : Prop := fnRangeRow.holds Try.pinned (OpenSpec.ofChange fnRangeSpec)

/-- ITS FALSE NEIGHBOUR: 'it returns false'. Refute it at one input. -/
def fnRangeWrong : ChangeSpec := { name := "fnRange", fn := fun _ => fun
  | [d] => { results := [.lit (.bool false)], args := [d] }
  | _ => none }
def FnRangeWrongFalsely : Prop := fnRangeRow.holds Try.pinned (OpenSpec.ofChange fnRangeWrong)

/-- 'laws.FnExactWordSize': WHATEVER THE INPUT: true; the input reads as it did. -/
def fnExactWordSizeSpec : ChangeSpec := { name := "fnExactWordSize", fn := fun _ => fun
  | [d] => { results := [.lit (.bool true)], args := [d] }
  | _ => none }
def fnExactWordSizeRow : OpenClaim := { program := "ytoalpianfmjbhaa", sum := "5f2d1b6ee2e4ea4a763d33f92ba77ac2c394ca3a6bef4ac4db04b2cc926ae84d", func := "loop.example/donjon/laws.FnExactWordSize", spec := "fnExactWordSize", apart := false }
def FnExactWordSizeSaid : Prop := fnExactWordSizeRow.holds Try.pinned (OpenSpec.ofChange fnExactWordSizeSpec)

/-- ITS FALSE NEIGHBOUR: 'it returns false'. Refute it at one input. -/
def fnExactWordSizeWrong : ChangeSpec := { name := "fnExactWordSize", fn := fun _ => fun
  | [d] => { results := [.lit (.bool false)], args := [d] }
  | _ => none }
def FnExactWordSizeWrongFalsely : Prop := fnExactWordSizeRow.holds Try.pinned (OpenSpec.ofChange fnExactWordSizeWrong)

/-- 'laws.FnExactWordAligned': WHATEVER THE INPUT: true; the input reads as it did. -/
def fnExactWordAlignedSpec : ChangeSpec := { name := "fnExactWordAligned", fn := fun _ => fun
  | [d1, d2] => { results := [.lit (.bool true)], args := [d1, d2] }
  | _ => none }
def fnExactWordAlignedRow : OpenClaim := { program := "ytoalpianfmjbhaa", sum := "5f2d1b6ee2e4ea4a763d33f92ba77ac2c394ca3a6bef4ac4db04b2cc926ae84d", func := "loop.example/donjon/laws.FnExactWordAligned", spec := "fnExactWordAligned", apart := false }
def FnExactWordAlignedSaid : Prop := fnExactWordAlignedRow.holds Try.pinned (OpenSpec.ofChange fnExactWordAlignedSpec)

/-- ITS FALSE NEIGHBOUR: 'it returns false'. Refute it at one input. -/
def fnExactWordAlignedWrong : ChangeSpec := { name := "fnExactWordAligned", fn := fun _ => fun
  | [d1, d2] => { results := [.lit (.bool false)], args := [d1, d2] }
  | _ => none }
def FnExactWordAlignedWrongFalsely : Prop := fnExactWordAlignedRow.holds Try.pinned (OpenSpec.ofChange fnExactWordAlignedWrong)

/-- 'laws.FnExactWordUp': WHATEVER THE INPUT: true; the input reads as it did. -/
def fnExactWordUpSpec : ChangeSpec := { name := "fnExactWordUp", fn := fun _ => fun
  | [d1, d2] => { results := [.lit (.bool true)], args := [d1, d2] }
  | _ => none }
def fnExactWordUpRow : OpenClaim := { program := "ytoalpianfmjbhaa", sum := "5f2d1b6ee2e4ea4a763d33f92ba77ac2c394ca3a6bef4ac4db04b2cc926ae84d", func := "loop.example/donjon/laws.FnExactWordUp", spec := "fnExactWordUp", apart := false }
def FnExactWordUpSaid : Prop := fnExactWordUpRow.holds Try.pinned (OpenSpec.ofChange fnExactWordUpSpec)

/-- ITS FALSE NEIGHBOUR: 'it returns false'. Refute it at one input. -/
def fnExactWordUpWrong : ChangeSpec := { name := "fnExactWordUp", fn := fun _ => fun
  | [d1, d2] => { results := [.lit (.bool false)], args := [d1, d2] }
  | _ => none }
def FnExactWordUpWrongFalsely : Prop := fnExactWordUpRow.holds Try.pinned (OpenSpec.ofChange fnExactWordUpWrong)

/-- 'laws.FnExactWordIn': WHATEVER THE INPUT: true; the input reads as it did. -/
def fnExactWordInSpec : ChangeSpec := { name := "fnExactWordIn", fn := fun _ => fun
  | [d1, d2, d3, d4] => { results := [.lit (.bool true)], args := [d1, d2, d3, d4] }
  | _ => none }
def fnExactWordInRow : OpenClaim := { program := "ytoalpianfmjbhaa", sum := "5f2d1b6ee2e4ea4a763d33f92ba77ac2c394ca3a6bef4ac4db04b2cc926ae84d", func := "loop.example/donjon/laws.FnExactWordIn", spec := "fnExactWordIn", apart := false }
def FnExactWordInSaid : Prop := fnExactWordInRow.holds Try.pinned (OpenSpec.ofChange fnExactWordInSpec)

/-- ITS FALSE NEIGHBOUR: 'it returns false'. Refute it at one input. -/
def fnExactWordInWrong : ChangeSpec := { name := "fnExactWordIn", fn := fun _ => fun
  | [d1, d2, d3, d4] => { results := [.lit (.bool false)], args := [d1, d2, d3, d4] }
  | _ => none }
def FnExactWordInWrongFalsely : Prop := fnExactWordInRow.holds Try.pinned (OpenSpec.ofChange fnExactWordInWrong)

/-- 'laws.FnExactWordMeet': WHATEVER THE INPUT: true; the input reads as it did. -/
def fnExactWordMeetSpec : ChangeSpec := { name := "fnExactWordMeet", fn := fun _ => fun
  | [d1, d2, d3, d4] => { results := [.lit (.bool true)], args := [d1, d2, d3, d4] }
  | _ => none }
def fnExactWordMeetRow : OpenClaim := { program := "ytoalpianfmjbhaa", sum := "5f2d1b6ee2e4ea4a763d33f92ba77ac2c394ca3a6bef4ac4db04b2cc926ae84d", func := "loop.example/donjon/laws.FnExactWordMeet", spec := "fnExactWordMeet", apart := false }
def FnExactWordMeetSaid : Prop := fnExactWordMeetRow.holds Try.pinned (OpenSpec.ofChange fnExactWordMeetSpec)

/-- ITS FALSE NEIGHBOUR: 'it returns false'. Refute it at one input. -/
def fnExactWordMeetWrong : ChangeSpec := { name := "fnExactWordMeet", fn := fun _ => fun
  | [d1, d2, d3, d4] => { results := [.lit (.bool false)], args := [d1, d2, d3, d4] }
  | _ => none }
def FnExactWordMeetWrongFalsely : Prop := fnExactWordMeetRow.holds Try.pinned (OpenSpec.ofChange fnExactWordMeetWrong)

/- THE SECOND FORM. 'bulk': how many values and letters a reading holds, each counted each time it is reached (what is shared counts as often as it is met; a slice's spare places count too). A statement '..UptoSaid' is the law's where the arguments, and the package variables that the reading takes, are together of bulk at most 1048576: NARROWER than '..Said'. Prove '..Said' where nothing that the law and all that it calls make is longer than what came in: it says more and counts as full. Else prove '..UptoSaid'. A law counts once. -/
mutual
def uptoBulk {H : Type} : DataW H → Nat
  | .lit (.string bytes) => bytes.length + 1
  | .lit _ => 1
  | .nil => 1
  | .ptr d => uptoBulk d + 1
  | .slice elems spare => uptoBulkAll elems + uptoBulkAll spare + 1
  | .agg parts => uptoBulkAll parts + 1
  | .iface _ d => uptoBulk d + 1
  | .map entries => uptoBulkEntries entries + 1
  | .held _ => 1
def uptoBulkAll {H : Type} : List (DataW H) → Nat
  | [] => 0
  | d :: r => uptoBulk d + uptoBulkAll r
def uptoBulkEntries {H : Type} : List (Lit × DataW H) → Nat
  | [] => 0
  | x :: r => uptoBulkEntry x + uptoBulkEntries r
def uptoBulkEntry {H : Type} : Lit × DataW H → Nat
  | (.string bytes, d) => bytes.length + uptoBulk d + 1
  | (_, d) => uptoBulk d + 1
 end
def uptoSmall : (H : Type) → List (DataW H) → Bool := fun _ ds => decide (uptoBulkAll ds ≤ 1048576)
def OpenSpec.upto (s : _root_.Go.ChangeSpec) : _root_.Go.OpenSpec := { _root_.Go.OpenSpec.ofChange s with cond := some uptoSmall }

/-- 'laws.FnRange', WHERE WHAT IT READS IS OF BULK AT MOST 1048576: true; the input reads as it did. -/
def fnRangeUptoRow : OpenClaim := { program := "ytoalpianfmjbhaa", sum := "5f2d1b6ee2e4ea4a763d33f92ba77ac2c394ca3a6bef4ac4db04b2cc926ae84d", func := "loop.example/donjon/laws.FnRange", spec := "fnRange", apart := false, narrowed := true }
def FnRangeUptoSaid : Prop := fnRangeUptoRow.holds Try.pinned (OpenSpec.upto fnRangeSpec)

/-- 'laws.FnExactWordSize', WHERE WHAT IT READS IS OF BULK AT MOST 1048576: true; the input reads as it did. -/
def fnExactWordSizeUptoRow : OpenClaim := { program := "ytoalpianfmjbhaa", sum := "5f2d1b6ee2e4ea4a763d33f92ba77ac2c394ca3a6bef4ac4db04b2cc926ae84d", func := "loop.example/donjon/laws.FnExactWordSize", spec := "fnExactWordSize", apart := false, narrowed := true }
def FnExactWordSizeUptoSaid : Prop := fnExactWordSizeUptoRow.holds Try.pinned (OpenSpec.upto fnExactWordSizeSpec)

/-- 'laws.FnExactWordAligned', WHERE WHAT IT READS IS OF BULK AT MOST 1048576: true; the input reads as it did. -/
def fnExactWordAlignedUptoRow : OpenClaim := { program := "ytoalpianfmjbhaa", sum := "5f2d1b6ee2e4ea4a763d33f92ba77ac2c394ca3a6bef4ac4db04b2cc926ae84d", func := "loop.example/donjon/laws.FnExactWordAligned", spec := "fnExactWordAligned", apart := false, narrowed := true }
def FnExactWordAlignedUptoSaid : Prop := fnExactWordAlignedUptoRow.holds Try.pinned (OpenSpec.upto fnExactWordAlignedSpec)

/-- 'laws.FnExactWordUp', WHERE WHAT IT READS IS OF BULK AT MOST 1048576: true; the input reads as it did. -/
def fnExactWordUpUptoRow : OpenClaim := { program := "ytoalpianfmjbhaa", sum := "5f2d1b6ee2e4ea4a763d33f92ba77ac2c394ca3a6bef4ac4db04b2cc926ae84d", func := "loop.example/donjon/laws.FnExactWordUp", spec := "fnExactWordUp", apart := false, narrowed := true }
def FnExactWordUpUptoSaid : Prop := fnExactWordUpUptoRow.holds Try.pinned (OpenSpec.upto fnExactWordUpSpec)

/-- 'laws.FnExactWordIn', WHERE WHAT IT READS IS OF BULK AT MOST 1048576: true; the input reads as it did. -/
def fnExactWordInUptoRow : OpenClaim := { program := "ytoalpianfmjbhaa", sum := "5f2d1b6ee2e4ea4a763d33f92ba77ac2c394ca3a6bef4ac4db04b2cc926ae84d", func := "loop.example/donjon/laws.FnExactWordIn", spec := "fnExactWordIn", apart := false, narrowed := true }
def FnExactWordInUptoSaid : Prop := fnExactWordInUptoRow.holds Try.pinned (OpenSpec.upto fnExactWordInSpec)

/-- 'laws.FnExactWordMeet', WHERE WHAT IT READS IS OF BULK AT MOST 1048576: true; the input reads as it did. -/
def fnExactWordMeetUptoRow : OpenClaim := { program := "ytoalpianfmjbhaa", sum := "5f2d1b6ee2e4ea4a763d33f92ba77ac2c394ca3a6bef4ac4db04b2cc926ae84d", func := "loop.example/donjon/laws.FnExactWordMeet", spec := "fnExactWordMeet", apart := false, narrowed := true }
def FnExactWordMeetUptoSaid : Prop := fnExactWordMeetUptoRow.holds Try.pinned (OpenSpec.upto fnExactWordMeetSpec)

end Rows
end Go.Proofs.Ytoalpianfmjbhaa
