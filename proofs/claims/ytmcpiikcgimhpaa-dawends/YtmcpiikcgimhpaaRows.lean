/-
  No cell of these rows narrows 'for every input' (looked for: loops, veiled, ifaces, maps, wideKeys, modest, calm, conditions, laid).
  DERIVED. THE GIVEN ROWS OF THIS SEAT. 4 by the template 'for every input the law returns true; each argument reads behind the call as it read before'; 0 by the template 'total and deterministic' (their statements: YtmcpiikcgimhpaaTotals.lean).
  GIVEN WITH THE SEED: the statements are not yours to turn. If you find one false, say at which input.
  Laid BY PROGRAM, IN A SANDBOX (cutbox-rows.mjs): the forced cells as the released guide's own fill.sh prints them over the translation 63408e09d627d6cd… (all of the seat's roots in one cut). By AI agents, Wed Nov 11 2026. No macro, syntax, notation, axiom, sorry.
-/
import Derived.Test.YtmcpiikcgimhpaaChecked
import GoSem.Claim
import GoSem.ClaimJoined
import GoSem.ClaimMapViews
import Derived.JoinedTies
import Derived.KernelRfl
namespace Go.Proofs.Ytmcpiikcgimhpaa
/- THE CELL 'sum', in the pinned program and in every row, IS THE sha256 OF THE DUMP (.gsa) THAT YtmcpiikcgimhpaaProg.lean LOADS. Nothing in Lean hashes anything: it is a label: what it is worth is what the hold of that sum in a sandbox is worth. -/
noncomputable def Try.pinned : Pinned := { name := "ytmcpiikcgimhpaa", sum := "63408e09d627d6cd9a6c3f7a329cf1ca7e61da7d762394bbbf94356785c0fb11", checked := Try.checked }
namespace Rows
def none {H : Type} : Left H := { results := [], args := [] }

/-- 'manteletlaw14.DawWords': WHATEVER THE INPUT: true; the input reads as it did. -/
def dawWordsSpec : ChangeSpec := { name := "dawWords", fn := fun _ => fun
  | [d1, d2, d3] => { results := [.lit (.bool true)], args := [d1, d2, d3] }
  | _ => none }
def dawWordsRow : OpenClaim := { program := "ytmcpiikcgimhpaa", sum := "63408e09d627d6cd9a6c3f7a329cf1ca7e61da7d762394bbbf94356785c0fb11", func := "mantelet/manteletlaw14.DawWords", spec := "dawWords", unfollowed := true, recurses := true, apart := false }
def DawWordsSaid : Prop := dawWordsRow.holds Try.pinned (OpenSpec.ofChange dawWordsSpec)

/-- ITS FALSE NEIGHBOUR: 'it returns false'. Refute it at one input. -/
def dawWordsWrong : ChangeSpec := { name := "dawWords", fn := fun _ => fun
  | [d1, d2, d3] => { results := [.lit (.bool false)], args := [d1, d2, d3] }
  | _ => none }
def DawWordsWrongFalsely : Prop := dawWordsRow.holds Try.pinned (OpenSpec.ofChange dawWordsWrong)

/-- 'manteletlaw14.DawLeast': WHATEVER THE INPUT: true; the input reads as it did. -/
def dawLeastSpec : ChangeSpec := { name := "dawLeast", fn := fun _ => fun
  | [d] => { results := [.lit (.bool true)], args := [d] }
  | _ => none }
def dawLeastRow : OpenClaim := { program := "ytmcpiikcgimhpaa", sum := "63408e09d627d6cd9a6c3f7a329cf1ca7e61da7d762394bbbf94356785c0fb11", func := "mantelet/manteletlaw14.DawLeast", spec := "dawLeast", apart := false }
def DawLeastSaid : Prop := dawLeastRow.holds Try.pinned (OpenSpec.ofChange dawLeastSpec)

/-- ITS FALSE NEIGHBOUR: 'it returns false'. Refute it at one input. -/
def dawLeastWrong : ChangeSpec := { name := "dawLeast", fn := fun _ => fun
  | [d] => { results := [.lit (.bool false)], args := [d] }
  | _ => none }
def DawLeastWrongFalsely : Prop := dawLeastRow.holds Try.pinned (OpenSpec.ofChange dawLeastWrong)

/-- 'manteletlaw14.DawBegins': WHATEVER THE INPUT: true; the input reads as it did. -/
def dawBeginsSpec : ChangeSpec := { name := "dawBegins", fn := fun _ => fun
  | [d1, d2, d3, d4] => { results := [.lit (.bool true)], args := [d1, d2, d3, d4] }
  | _ => none }
def dawBeginsRow : OpenClaim := { program := "ytmcpiikcgimhpaa", sum := "63408e09d627d6cd9a6c3f7a329cf1ca7e61da7d762394bbbf94356785c0fb11", func := "mantelet/manteletlaw14.DawBegins", spec := "dawBegins", apart := false }
def DawBeginsSaid : Prop := dawBeginsRow.holds Try.pinned (OpenSpec.ofChange dawBeginsSpec)

/-- ITS FALSE NEIGHBOUR: 'it returns false'. Refute it at one input. -/
def dawBeginsWrong : ChangeSpec := { name := "dawBegins", fn := fun _ => fun
  | [d1, d2, d3, d4] => { results := [.lit (.bool false)], args := [d1, d2, d3, d4] }
  | _ => none }
def DawBeginsWrongFalsely : Prop := dawBeginsRow.holds Try.pinned (OpenSpec.ofChange dawBeginsWrong)

/-- 'manteletlaw14.DawEnds': WHATEVER THE INPUT: true; the input reads as it did. -/
def dawEndsSpec : ChangeSpec := { name := "dawEnds", fn := fun _ => fun
  | [d1, d2] => { results := [.lit (.bool true)], args := [d1, d2] }
  | _ => none }
def dawEndsRow : OpenClaim := { program := "ytmcpiikcgimhpaa", sum := "63408e09d627d6cd9a6c3f7a329cf1ca7e61da7d762394bbbf94356785c0fb11", func := "mantelet/manteletlaw14.DawEnds", spec := "dawEnds", apart := false }
def DawEndsSaid : Prop := dawEndsRow.holds Try.pinned (OpenSpec.ofChange dawEndsSpec)

/-- ITS FALSE NEIGHBOUR: 'it returns false'. Refute it at one input. -/
def dawEndsWrong : ChangeSpec := { name := "dawEnds", fn := fun _ => fun
  | [d1, d2] => { results := [.lit (.bool false)], args := [d1, d2] }
  | _ => none }
def DawEndsWrongFalsely : Prop := dawEndsRow.holds Try.pinned (OpenSpec.ofChange dawEndsWrong)

/- THE SECOND FORM. 'bulk': how many values and letters a reading holds, each counted each time it is reached (what is shared counts as often as it is met; a slice's spare places count too). A statement '..UptoSaid' is the law's where the arguments, and the package variables that the reading takes, are together of bulk at most 1048576: NARROWER than '..Said'. Prove '..Said' where nothing that the law and all that it calls make is longer than what came in: it says more and counts as full. Else prove '..UptoSaid'. A law counts once. -/
mutual
def uptoBulk {H : Type} : DataW H → Nat
  | .lit (.string bytes) => bytes.length + 1
  | .lit _ => 1
  | .nil => 1
  | .ptr d => uptoBulk d + 1
  | .slice elems spare => uptoBulkAll elems + uptoBulkAll spare + 1
  | .agg parts => uptoBulkAll parts + 1
  | .iface _ d => uptoBulk d + 1
  | .map entries => uptoBulkEntries entries + 1
  | .held _ => 1
def uptoBulkAll {H : Type} : List (DataW H) → Nat
  | [] => 0
  | d :: r => uptoBulk d + uptoBulkAll r
def uptoBulkEntries {H : Type} : List (Lit × DataW H) → Nat
  | [] => 0
  | x :: r => uptoBulkEntry x + uptoBulkEntries r
def uptoBulkEntry {H : Type} : Lit × DataW H → Nat
  | (.string bytes, d) => bytes.length + uptoBulk d + 1
  | (_, d) => uptoBulk d + 1
 end
def uptoSmall : (H : Type) → List (DataW H) → Bool := fun _ ds => decide (uptoBulkAll ds ≤ 1048576)
def OpenSpec.upto (s : _root_.Go.ChangeSpec) : _root_.Go.OpenSpec := { _root_.Go.OpenSpec.ofChange s with cond := some uptoSmall }

/-- 'manteletlaw14.DawWords', WHERE WHAT IT READS IS OF BULK AT MOST 1048576: true; the input reads as it did. -/
def dawWordsUptoRow : OpenClaim := { program := "ytmcpiikcgimhpaa", sum := "63408e09d627d6cd9a6c3f7a329cf1ca7e61da7d762394bbbf94356785c0fb11", func := "mantelet/manteletlaw14.DawWords", spec := "dawWords", unfollowed := true, recurses := true, apart := false, narrowed := true }
def DawWordsUptoSaid : Prop := dawWordsUptoRow.holds Try.pinned (OpenSpec.upto dawWordsSpec)

/-- 'manteletlaw14.DawLeast', WHERE WHAT IT READS IS OF BULK AT MOST 1048576: true; the input reads as it did. -/
def dawLeastUptoRow : OpenClaim := { program := "ytmcpiikcgimhpaa", sum := "63408e09d627d6cd9a6c3f7a329cf1ca7e61da7d762394bbbf94356785c0fb11", func := "mantelet/manteletlaw14.DawLeast", spec := "dawLeast", apart := false, narrowed := true }
def DawLeastUptoSaid : Prop := dawLeastUptoRow.holds Try.pinned (OpenSpec.upto dawLeastSpec)

/-- 'manteletlaw14.DawBegins', WHERE WHAT IT READS IS OF BULK AT MOST 1048576: true; the input reads as it did. -/
def dawBeginsUptoRow : OpenClaim := { program := "ytmcpiikcgimhpaa", sum := "63408e09d627d6cd9a6c3f7a329cf1ca7e61da7d762394bbbf94356785c0fb11", func := "mantelet/manteletlaw14.DawBegins", spec := "dawBegins", apart := false, narrowed := true }
def DawBeginsUptoSaid : Prop := dawBeginsUptoRow.holds Try.pinned (OpenSpec.upto dawBeginsSpec)

/-- 'manteletlaw14.DawEnds', WHERE WHAT IT READS IS OF BULK AT MOST 1048576: true; the input reads as it did. -/
def dawEndsUptoRow : OpenClaim := { program := "ytmcpiikcgimhpaa", sum := "63408e09d627d6cd9a6c3f7a329cf1ca7e61da7d762394bbbf94356785c0fb11", func := "mantelet/manteletlaw14.DawEnds", spec := "dawEnds", apart := false, narrowed := true }
def DawEndsUptoSaid : Prop := dawEndsUptoRow.holds Try.pinned (OpenSpec.upto dawEndsSpec)

end Rows
end Go.Proofs.Ytmcpiikcgimhpaa
