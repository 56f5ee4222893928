/-
  No cell of these rows narrows 'for every input' (looked for: loops, veiled, ifaces, maps, wideKeys, modest, calm, conditions, laid).
  DERIVED. THE GIVEN ROWS OF THIS SEAT. 4 by the template 'for every input the law returns true; each argument reads behind the call as it read before'; 0 by the template 'total and deterministic' (their statements: YtigpbjcmmgdiaaaGreatTotals.lean).
  GIVEN WITH THE SEED: the statements are not yours to turn. If you find one false, say at which input.
  Laid BY PROGRAM, IN A SANDBOX (cutbox-rows.mjs): the forced cells as the released guide's own fill.sh prints them over the translation 9e0e6ce99944b98c… (all of the seat's roots in one cut). By AI agents, Wed Nov 11 2026. No macro, syntax, notation, axiom, sorry.
-/
import Derived.Test.YtigpbjcmmgdiaaaGreatChecked
import GoSem.Claim
import GoSem.ClaimJoined
import GoSem.ClaimMapViews
import Derived.JoinedTies
import Derived.KernelRfl
namespace Go.Proofs.YtigpbjcmmgdiaaaGreat
/- THE CELL 'sum', in the pinned program and in every row, IS THE sha256 OF THE DUMP (.gsa) THAT YtigpbjcmmgdiaaaGreatProg.lean LOADS. Nothing in Lean hashes anything: it is a label: what it is worth is what the hold of that sum in a sandbox is worth. -/
noncomputable def Tryz.pinned : Pinned := { name := "ytigpbjcmmgdiaaagreat", sum := "9e0e6ce99944b98ce1d16352660fcf6f93d62ff61a1de453b441bfe3e38a259b", checked := Tryz.checked }
namespace Rows
def none {H : Type} : Left H := { results := [], args := [] }

/-- 'laws.FnExactKernCap': WHATEVER THE INPUT: true; the input reads as it did. -/
def fnExactKernCapSpec : ChangeSpec := { name := "fnExactKernCap", fn := fun _ => fun
  | [d1, d2] => { results := [.lit (.bool true)], args := [d1, d2] }
  | _ => none }
def fnExactKernCapRow : OpenClaim := { program := "ytigpbjcmmgdiaaagreat", sum := "9e0e6ce99944b98ce1d16352660fcf6f93d62ff61a1de453b441bfe3e38a259b", func := "loop.example/donjon/laws.FnExactKernCap", spec := "fnExactKernCap", unfollowed := true, recurses := true, apart := false }
def FnExactKernCapSaid : Prop := fnExactKernCapRow.holds Tryz.pinned (OpenSpec.ofChange fnExactKernCapSpec)

/-- ITS FALSE NEIGHBOUR: 'it returns false'. Refute it at one input. -/
def fnExactKernCapWrong : ChangeSpec := { name := "fnExactKernCap", fn := fun _ => fun
  | [d1, d2] => { results := [.lit (.bool false)], args := [d1, d2] }
  | _ => none }
def FnExactKernCapWrongFalsely : Prop := fnExactKernCapRow.holds Tryz.pinned (OpenSpec.ofChange fnExactKernCapWrong)

/-- 'laws.FnExactKernThreadAt': WHATEVER THE INPUT: true; the input reads as it did. -/
def fnExactKernThreadAtSpec : ChangeSpec := { name := "fnExactKernThreadAt", fn := fun _ => fun
  | [d1, d2] => { results := [.lit (.bool true)], args := [d1, d2] }
  | _ => none }
def fnExactKernThreadAtRow : OpenClaim := { program := "ytigpbjcmmgdiaaagreat", sum := "9e0e6ce99944b98ce1d16352660fcf6f93d62ff61a1de453b441bfe3e38a259b", func := "loop.example/donjon/laws.FnExactKernThreadAt", spec := "fnExactKernThreadAt", unfollowed := true, recurses := true, apart := false }
def FnExactKernThreadAtSaid : Prop := fnExactKernThreadAtRow.holds Tryz.pinned (OpenSpec.ofChange fnExactKernThreadAtSpec)

/-- ITS FALSE NEIGHBOUR: 'it returns false'. Refute it at one input. -/
def fnExactKernThreadAtWrong : ChangeSpec := { name := "fnExactKernThreadAt", fn := fun _ => fun
  | [d1, d2] => { results := [.lit (.bool false)], args := [d1, d2] }
  | _ => none }
def FnExactKernThreadAtWrongFalsely : Prop := fnExactKernThreadAtRow.holds Tryz.pinned (OpenSpec.ofChange fnExactKernThreadAtWrong)

/-- 'laws.FnExactKernCur': WHATEVER THE INPUT: true; the input reads as it did. -/
def fnExactKernCurSpec : ChangeSpec := { name := "fnExactKernCur", fn := fun _ => fun
  | [d] => { results := [.lit (.bool true)], args := [d] }
  | _ => none }
def fnExactKernCurRow : OpenClaim := { program := "ytigpbjcmmgdiaaagreat", sum := "9e0e6ce99944b98ce1d16352660fcf6f93d62ff61a1de453b441bfe3e38a259b", func := "loop.example/donjon/laws.FnExactKernCur", spec := "fnExactKernCur", unfollowed := true, recurses := true, apart := false }
def FnExactKernCurSaid : Prop := fnExactKernCurRow.holds Tryz.pinned (OpenSpec.ofChange fnExactKernCurSpec)

/-- ITS FALSE NEIGHBOUR: 'it returns false'. Refute it at one input. -/
def fnExactKernCurWrong : ChangeSpec := { name := "fnExactKernCur", fn := fun _ => fun
  | [d] => { results := [.lit (.bool false)], args := [d] }
  | _ => none }
def FnExactKernCurWrongFalsely : Prop := fnExactKernCurRow.holds Tryz.pinned (OpenSpec.ofChange fnExactKernCurWrong)

/-- 'laws.FnExactKernNext': WHATEVER THE INPUT: true; the input reads as it did. -/
def fnExactKernNextSpec : ChangeSpec := { name := "fnExactKernNext", fn := fun _ => fun
  | [d1, d2] => { results := [.lit (.bool true)], args := [d1, d2] }
  | _ => none }
def fnExactKernNextRow : OpenClaim := { program := "ytigpbjcmmgdiaaagreat", sum := "9e0e6ce99944b98ce1d16352660fcf6f93d62ff61a1de453b441bfe3e38a259b", func := "loop.example/donjon/laws.FnExactKernNext", spec := "fnExactKernNext", unfollowed := true, recurses := true, apart := false }
def FnExactKernNextSaid : Prop := fnExactKernNextRow.holds Tryz.pinned (OpenSpec.ofChange fnExactKernNextSpec)

/-- ITS FALSE NEIGHBOUR: 'it returns false'. Refute it at one input. -/
def fnExactKernNextWrong : ChangeSpec := { name := "fnExactKernNext", fn := fun _ => fun
  | [d1, d2] => { results := [.lit (.bool false)], args := [d1, d2] }
  | _ => none }
def FnExactKernNextWrongFalsely : Prop := fnExactKernNextRow.holds Tryz.pinned (OpenSpec.ofChange fnExactKernNextWrong)

/- THE SECOND FORM. 'bulk': how many values and letters a reading holds, each counted each time it is reached (what is shared counts as often as it is met; a slice's spare places count too). A statement '..UptoSaid' is the law's where the arguments, and the package variables that the reading takes, are together of bulk at most 1048576: NARROWER than '..Said'. Prove '..Said' where nothing that the law and all that it calls make is longer than what came in: it says more and counts as full. Else prove '..UptoSaid'. A law counts once. -/
mutual
def uptoBulk {H : Type} : DataW H → Nat
  | .lit (.string bytes) => bytes.length + 1
  | .lit _ => 1
  | .nil => 1
  | .ptr d => uptoBulk d + 1
  | .slice elems spare => uptoBulkAll elems + uptoBulkAll spare + 1
  | .agg parts => uptoBulkAll parts + 1
  | .iface _ d => uptoBulk d + 1
  | .map entries => uptoBulkEntries entries + 1
  | .held _ => 1
def uptoBulkAll {H : Type} : List (DataW H) → Nat
  | [] => 0
  | d :: r => uptoBulk d + uptoBulkAll r
def uptoBulkEntries {H : Type} : List (Lit × DataW H) → Nat
  | [] => 0
  | x :: r => uptoBulkEntry x + uptoBulkEntries r
def uptoBulkEntry {H : Type} : Lit × DataW H → Nat
  | (.string bytes, d) => bytes.length + uptoBulk d + 1
  | (_, d) => uptoBulk d + 1
 end
def uptoSmall : (H : Type) → List (DataW H) → Bool := fun _ ds => decide (uptoBulkAll ds ≤ 1048576)
def OpenSpec.upto (s : _root_.Go.ChangeSpec) : _root_.Go.OpenSpec := { _root_.Go.OpenSpec.ofChange s with cond := some uptoSmall }

/-- 'laws.FnExactKernCap', WHERE WHAT IT READS IS OF BULK AT MOST 1048576: true; the input reads as it did. -/
def fnExactKernCapUptoRow : OpenClaim := { program := "ytigpbjcmmgdiaaagreat", sum := "9e0e6ce99944b98ce1d16352660fcf6f93d62ff61a1de453b441bfe3e38a259b", func := "loop.example/donjon/laws.FnExactKernCap", spec := "fnExactKernCap", unfollowed := true, recurses := true, apart := false, narrowed := true }
def FnExactKernCapUptoSaid : Prop := fnExactKernCapUptoRow.holds Tryz.pinned (OpenSpec.upto fnExactKernCapSpec)

/-- 'laws.FnExactKernThreadAt', WHERE WHAT IT READS IS OF BULK AT MOST 1048576: true; the input reads as it did. -/
def fnExactKernThreadAtUptoRow : OpenClaim := { program := "ytigpbjcmmgdiaaagreat", sum := "9e0e6ce99944b98ce1d16352660fcf6f93d62ff61a1de453b441bfe3e38a259b", func := "loop.example/donjon/laws.FnExactKernThreadAt", spec := "fnExactKernThreadAt", unfollowed := true, recurses := true, apart := false, narrowed := true }
def FnExactKernThreadAtUptoSaid : Prop := fnExactKernThreadAtUptoRow.holds Tryz.pinned (OpenSpec.upto fnExactKernThreadAtSpec)

/-- 'laws.FnExactKernCur', WHERE WHAT IT READS IS OF BULK AT MOST 1048576: true; the input reads as it did. -/
def fnExactKernCurUptoRow : OpenClaim := { program := "ytigpbjcmmgdiaaagreat", sum := "9e0e6ce99944b98ce1d16352660fcf6f93d62ff61a1de453b441bfe3e38a259b", func := "loop.example/donjon/laws.FnExactKernCur", spec := "fnExactKernCur", unfollowed := true, recurses := true, apart := false, narrowed := true }
def FnExactKernCurUptoSaid : Prop := fnExactKernCurUptoRow.holds Tryz.pinned (OpenSpec.upto fnExactKernCurSpec)

/-- 'laws.FnExactKernNext', WHERE WHAT IT READS IS OF BULK AT MOST 1048576: true; the input reads as it did. -/
def fnExactKernNextUptoRow : OpenClaim := { program := "ytigpbjcmmgdiaaagreat", sum := "9e0e6ce99944b98ce1d16352660fcf6f93d62ff61a1de453b441bfe3e38a259b", func := "loop.example/donjon/laws.FnExactKernNext", spec := "fnExactKernNext", unfollowed := true, recurses := true, apart := false, narrowed := true }
def FnExactKernNextUptoSaid : Prop := fnExactKernNextUptoRow.holds Tryz.pinned (OpenSpec.upto fnExactKernNextSpec)

end Rows
end Go.Proofs.YtigpbjcmmgdiaaaGreat
