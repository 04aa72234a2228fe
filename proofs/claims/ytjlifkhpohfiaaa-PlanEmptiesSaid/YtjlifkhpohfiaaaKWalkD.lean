/- What the law's Short answers of one span, of two. Condition: none. -/
import Derived.Test.YtjlifkhpohfiaaaKWalkA
import Derived.Handy
namespace Go.Proofs.Ytjlifkhpohfiaaa
open Go.RowKit Go.Op
set_option maxRecDepth 100000

/-- Where a span lies in memory. -/
def At (p o : Nat) (s : Sp) (w : World) : Prop := w.cell? ⟨p, o, none⟩ = some (.string s.lo) ∧ w.cell? ⟨p, o + 1, none⟩ = some (.string s.hi) ∧ w.cell? ⟨p, o + 2, none⟩ = some (.bool s.all)

end Go.Proofs.Ytjlifkhpohfiaaa
