/-
  NARROWER THAN 'FOR EVERY INPUT', by the rows' own cells (each row's printed sentence says how): FnExactBootOk: ifaces, laid.
  DERIVED. THE GIVEN ROWS OF THIS SEAT. 1 by the template 'for every input the law returns true; each argument reads behind the call as it read before'; 0 by the template 'total and deterministic' (their statements: YtjiignkappabpaaDoorTotals.lean).
  GIVEN WITH THE SEED: the statements are not yours to turn. If you find one false, say at which input.
  Laid BY PROGRAM, IN A SANDBOX (cutbox-rows.mjs): the forced cells as the released guide's own fill.sh prints them over the translation 44296a9b842de5a7… (all of the seat's roots in one cut). By AI agents, Wed Nov 11 2026. No macro, syntax, notation, axiom, sorry.
-/
import Derived.Test.YtjiignkappabpaaDoorChecked
import GoSem.Claim
import GoSem.ClaimJoined
import GoSem.ClaimMapViews
import Derived.JoinedTies
import Derived.KernelRfl
namespace Go.Proofs.YtjiignkappabpaaDoor
/- THE CELL 'sum', in the pinned program and in every row, IS THE sha256 OF THE DUMP (.gsa) THAT YtjiignkappabpaaDoorProg.lean LOADS. Nothing in Lean hashes anything: it is a label: what it is worth is what the hold of that sum in a sandbox is worth. -/
noncomputable def Tryd.pinned : Pinned := { name := "ytjiignkappabpaadoor", sum := "44296a9b842de5a7b7ef50d4fc568dfeeab168395d5b9ae4e871856584806900", checked := Tryd.checked }
namespace Rows
def none {H : Type} : Left H := { results := [], args := [] }

/- WHAT THE LISTED PACKAGE-LEVEL VARIABLES READ AS WHEN THE CALL BEGINS. Each datum BY PROGRAM (the guide's laid-datum.mjs) off the statement by which the dump's own 'gosem.cut.vars' lays the variable. In a bare row this is a premise. The card (YtjiignkappabpaaDoorCards.lean) ties it to the program's text. -/
def laid_loop_example_donjon_impl_errBootCount {H : Type} : DataW H := .iface "*errors.errorString" (.ptr (.agg [.lit (.string [116, 111, 111, 32, 102, 101, 119, 32, 111, 114, 32, 116, 111, 111, 32, 109, 97, 110, 121, 32, 111, 102, 32, 115, 111, 109, 101, 116, 104, 105, 110, 103])]))
def laid_loop_example_donjon_impl_errBootSize {H : Type} : DataW H := .iface "*errors.errorString" (.ptr (.agg [.lit (.string [110, 111, 32, 115, 117, 99, 104, 32, 115, 105, 122, 101, 32, 111, 102, 32, 109, 101, 109, 111, 114, 121, 32, 111, 114, 32, 111, 102, 32, 97, 32, 112, 97, 114, 116])]))
def laid_loop_example_donjon_impl_errBootNumber {H : Type} : DataW H := .iface "*errors.errorString" (.ptr (.agg [.lit (.string [97, 32, 110, 117, 109, 98, 101, 114, 32, 98, 101, 121, 111, 110, 100, 32, 105, 116, 115, 32, 98, 111, 117, 110, 100, 115])]))
def laid_loop_example_donjon_impl_errBootNamed {H : Type} : DataW H := .iface "*errors.errorString" (.ptr (.agg [.lit (.string [97, 32, 100, 111, 109, 97, 105, 110, 32, 105, 115, 32, 110, 97, 109, 101, 100, 32, 116, 111, 111, 32, 111, 102, 116, 101, 110])]))
def laid_loop_example_donjon_impl_errBootRoom {H : Type} : DataW H := .iface "*errors.errorString" (.ptr (.agg [.lit (.string [116, 104, 101, 32, 112, 97, 114, 116, 115, 32, 100, 111, 32, 110, 111, 116, 32, 101, 110, 100, 32, 119, 105, 116, 104, 105, 110, 32, 109, 101, 109, 111, 114, 121])]))

/-- 'laws.FnExactBootOk': WHATEVER THE INPUT: true; the input reads as it did. -/
def fnExactBootOkSpec : ChangeSpec := { name := "fnExactBootOk", vars := ["loop.example/donjon/impl.errBootCount", "loop.example/donjon/impl.errBootSize", "loop.example/donjon/impl.errBootNumber", "loop.example/donjon/impl.errBootNamed", "loop.example/donjon/impl.errBootRoom"], fn := fun _ => fun
  | [d, g1, g2, g3, g4, g5] => { results := [.lit (.bool true)], args := [d], vars := [g1, g2, g3, g4, g5] }
  | _ => none }
def fnExactBootOkRow : OpenClaim := { program := "ytjiignkappabpaadoor", sum := "44296a9b842de5a7b7ef50d4fc568dfeeab168395d5b9ae4e871856584806900", func := "loop.example/donjon/laws.FnExactBootOk", spec := "fnExactBootOk", inPlace := ["internal/reflectlite.TypeOf"], unfollowed := true, recurses := true, named := ["loop.example/donjon/impl.errBootCount", "loop.example/donjon/impl.errBootSize", "loop.example/donjon/impl.errBootNumber", "loop.example/donjon/impl.errBootNamed", "loop.example/donjon/impl.errBootRoom"], ifaces := true, apart := false, laid := [("loop.example/donjon/impl.errBootCount", laid_loop_example_donjon_impl_errBootCount), ("loop.example/donjon/impl.errBootSize", laid_loop_example_donjon_impl_errBootSize), ("loop.example/donjon/impl.errBootNumber", laid_loop_example_donjon_impl_errBootNumber), ("loop.example/donjon/impl.errBootNamed", laid_loop_example_donjon_impl_errBootNamed), ("loop.example/donjon/impl.errBootRoom", laid_loop_example_donjon_impl_errBootRoom)] }
def FnExactBootOkSaid : Prop := fnExactBootOkRow.holds Tryd.pinned (OpenSpec.ofChange fnExactBootOkSpec)

/-- ITS FALSE NEIGHBOUR: 'it returns false'. Refute it at one input. -/
def fnExactBootOkWrong : ChangeSpec := { name := "fnExactBootOk", vars := ["loop.example/donjon/impl.errBootCount", "loop.example/donjon/impl.errBootSize", "loop.example/donjon/impl.errBootNumber", "loop.example/donjon/impl.errBootNamed", "loop.example/donjon/impl.errBootRoom"], fn := fun _ => fun
  | [d, g1, g2, g3, g4, g5] => { results := [.lit (.bool false)], args := [d], vars := [g1, g2, g3, g4, g5] }
  | _ => none }
def FnExactBootOkWrongFalsely : Prop := fnExactBootOkRow.holds Tryd.pinned (OpenSpec.ofChange fnExactBootOkWrong)

/- THE SECOND FORM. 'bulk': how many values and letters a reading holds, each counted each time it is reached (what is shared counts as often as it is met; a slice's spare places count too). A statement '..UptoSaid' is the law's where the arguments, and the package variables that the reading takes, are together of bulk at most 1048576: NARROWER than '..Said'. Prove '..Said' where nothing that the law and all that it calls make is longer than what came in: it says more and counts as full. Else prove '..UptoSaid'. A law counts once. -/
mutual
def uptoBulk {H : Type} : DataW H → Nat
  | .lit (.string bytes) => bytes.length + 1
  | .lit _ => 1
  | .nil => 1
  | .ptr d => uptoBulk d + 1
  | .slice elems spare => uptoBulkAll elems + uptoBulkAll spare + 1
  | .agg parts => uptoBulkAll parts + 1
  | .iface _ d => uptoBulk d + 1
  | .map entries => uptoBulkEntries entries + 1
  | .held _ => 1
def uptoBulkAll {H : Type} : List (DataW H) → Nat
  | [] => 0
  | d :: r => uptoBulk d + uptoBulkAll r
def uptoBulkEntries {H : Type} : List (Lit × DataW H) → Nat
  | [] => 0
  | x :: r => uptoBulkEntry x + uptoBulkEntries r
def uptoBulkEntry {H : Type} : Lit × DataW H → Nat
  | (.string bytes, d) => bytes.length + uptoBulk d + 1
  | (_, d) => uptoBulk d + 1
 end
def uptoSmall : (H : Type) → List (DataW H) → Bool := fun _ ds => decide (uptoBulkAll ds ≤ 1048576)
def OpenSpec.upto (s : _root_.Go.ChangeSpec) : _root_.Go.OpenSpec := { _root_.Go.OpenSpec.ofChange s with cond := some uptoSmall }

/-- 'laws.FnExactBootOk', WHERE WHAT IT READS IS OF BULK AT MOST 1048576: true; the input reads as it did. -/
def fnExactBootOkUptoRow : OpenClaim := { program := "ytjiignkappabpaadoor", sum := "44296a9b842de5a7b7ef50d4fc568dfeeab168395d5b9ae4e871856584806900", func := "loop.example/donjon/laws.FnExactBootOk", spec := "fnExactBootOk", inPlace := ["internal/reflectlite.TypeOf"], unfollowed := true, recurses := true, named := ["loop.example/donjon/impl.errBootCount", "loop.example/donjon/impl.errBootSize", "loop.example/donjon/impl.errBootNumber", "loop.example/donjon/impl.errBootNamed", "loop.example/donjon/impl.errBootRoom"], ifaces := true, apart := false, laid := [("loop.example/donjon/impl.errBootCount", laid_loop_example_donjon_impl_errBootCount), ("loop.example/donjon/impl.errBootSize", laid_loop_example_donjon_impl_errBootSize), ("loop.example/donjon/impl.errBootNumber", laid_loop_example_donjon_impl_errBootNumber), ("loop.example/donjon/impl.errBootNamed", laid_loop_example_donjon_impl_errBootNamed), ("loop.example/donjon/impl.errBootRoom", laid_loop_example_donjon_impl_errBootRoom)], narrowed := true }
def FnExactBootOkUptoSaid : Prop := fnExactBootOkUptoRow.holds Tryd.pinned (OpenSpec.upto fnExactBootOkSpec)

end Rows
end Go.Proofs.YtjiignkappabpaaDoor
