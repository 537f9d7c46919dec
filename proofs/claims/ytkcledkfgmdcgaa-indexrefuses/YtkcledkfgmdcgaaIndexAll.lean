/- What Counts, Of and Word tell of whatever states. -/
import Derived.Test.YtkcledkfgmdcgaaDawTurn
namespace Go.Proofs.Ytkcledkfgmdcgaa
open Go.RowKit
set_option linter.unusedVariables false

def CountsAll (w : World) (A : List StZ) (len : Nat) (e : Ending) (w' : World) : Prop :=
  ∃ (ag : Option Addr) (m c d : Nat), e = .returned (.tuple #[.slice ag m c, .int .i64 (d : Nat)]) ∧ ((MayP A ∧ ((d = 0 ∧ m = len) ∨ d = 5)) ∨ (¬ MayP A ∧ d = 1 ∧ m = 0)) ∧ Below w.heap.size w w'
def OfAll (w : World) (A : List StZ) (e : Ending) (w' : World) : Prop :=
  ∃ (i : Int) (b : Bool), e = .returned (.tuple #[.int .i64 i, .bool b]) ∧ (MayP A ∨ (i = 0 ∧ b = false)) ∧ Below w.heap.size w w'
def WordAll (w : World) (A : List StZ) (e : Ending) (w' : World) : Prop :=
  ∃ (k : Wd) (b : Bool), e = .returned (.tuple #[strV k, .bool b]) ∧ (MayP A ∨ (k = [] ∧ b = false)) ∧ Below w.heap.size w w'
end Go.Proofs.Ytkcledkfgmdcgaa
