/- What the reference's One makes of the document's memory at an entry of kind any. Conditions: counts and live cells are below 2 to the 61; generations are between 0 and 16384. -/
import Derived.Test.YthdcilbbllldiaaDoorStN
import Derived.Test.YthdcilbbllldiaaDoorStO
namespace Go.Proofs.YthdcilbbllldiaaDoor
open Go.RowKit Go.Op
set_option maxRecDepth 100000
section
variable {w : World} {rc cap : Nat} {m : M}
theorem refone_any (hA : RAt w rc m) (hO : m.Ok 2305843009213693952) (z : Aq) (tl : Int) (ha : 0 ≤ z.act ∧ z.act ≤ 255) :
    Calls Tryd.prog 14 #[m.rv rc cap, z.v, .int .i64 tl] w fun e w' => ROne w rc m z tl e w' := by
  rcases (show z.act % 7 = 0 ∨ z.act % 7 = 1 ∨ z.act % 7 = 2 ∨ z.act % 7 = 3 ∨ z.act % 7 = 4 ∨ z.act % 7 = 5 ∨ z.act % 7 = 6 by omega) with k | k | k | k | k | k | k
  · exact refone_0 hA hO z tl ha k
  · exact refone_1 hA hO z tl ha k
  · exact refone_2 hA hO z tl ha k
  · exact refone_3 hA hO z tl ha k
  · exact refone_4 hA hO z tl ha k
  · exact refone_5 hA hO z tl ha k
  · exact refone_6 hA hO z tl ha k
end
end Go.Proofs.YthdcilbbllldiaaDoor
