/- What Add of layer 1 tells. -/
import Derived.Test.YtkcledkfgmdcgaaRows
import Derived.WalkKit
import Derived.WalkSpells
import Derived.WalkLawsBesides
namespace Go.Proofs.Ytkcledkfgmdcgaa
open Go.RowKit

def addN (a b : Int) : Int := if a + b ≤ 4611686018427387904 then a + b else 0
def addB (a b : Int) : Bool := decide (a + b ≤ 4611686018427387904)
end Go.Proofs.Ytkcledkfgmdcgaa
