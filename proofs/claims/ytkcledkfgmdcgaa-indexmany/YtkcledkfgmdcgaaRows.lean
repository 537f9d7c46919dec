/-
  No cell of these rows narrows 'for every input' (looked for: loops, veiled, ifaces, maps, wideKeys, modest, calm, conditions, laid).
  DERIVED. THE GIVEN ROWS OF THIS SEAT. 6 by the template 'for every input the law returns true; each argument reads behind the call as it read before'; 0 by the template 'total and deterministic' (their statements: YtkcledkfgmdcgaaTotals.lean).
  GIVEN WITH THE SEED: the statements are not yours to turn. If you find one false, say at which input.
  Laid BY PROGRAM, IN A SANDBOX (cutbox-rows.mjs): the forced cells as the released guide's own fill.sh prints them over the translation b0a9b42c7daecf8a… (all of the seat's roots in one cut). By AI agents, Wed Nov 11 2026. No macro, syntax, notation, axiom, sorry.
-/
import Derived.Test.YtkcledkfgmdcgaaChecked
import GoSem.Claim
import GoSem.ClaimJoined
import GoSem.ClaimMapViews
import Derived.JoinedTies
import Derived.KernelRfl
namespace Go.Proofs.Ytkcledkfgmdcgaa
/- THE CELL 'sum', in the pinned program and in every row, IS THE sha256 OF THE DUMP (.gsa) THAT YtkcledkfgmdcgaaProg.lean LOADS. Nothing in Lean hashes anything: it is a label: what it is worth is what the hold of that sum in a sandbox is worth. -/
noncomputable def Try.pinned : Pinned := { name := "ytkcledkfgmdcgaa", sum := "b0a9b42c7daecf8ad87568b7b87e820d9b7ed929ef59945067508d0471e7432d", checked := Try.checked }
namespace Rows
def none {H : Type} : Left H := { results := [], args := [] }

/-- 'manteletlaw15.IndexTells': WHATEVER THE INPUT: true; the input reads as it did. -/
def indexTellsSpec : ChangeSpec := { name := "indexTells", fn := fun _ => fun
  | [d1, d2, d3] => { results := [.lit (.bool true)], args := [d1, d2, d3] }
  | _ => none }
def indexTellsRow : OpenClaim := { program := "ytkcledkfgmdcgaa", sum := "b0a9b42c7daecf8ad87568b7b87e820d9b7ed929ef59945067508d0471e7432d", func := "mantelet/manteletlaw15.IndexTells", spec := "indexTells", unfollowed := true, recurses := true, apart := false }
def IndexTellsSaid : Prop := indexTellsRow.holds Try.pinned (OpenSpec.ofChange indexTellsSpec)

/-- ITS FALSE NEIGHBOUR: 'it returns false'. Refute it at one input. -/
def indexTellsWrong : ChangeSpec := { name := "indexTells", fn := fun _ => fun
  | [d1, d2, d3] => { results := [.lit (.bool false)], args := [d1, d2, d3] }
  | _ => none }
def IndexTellsWrongFalsely : Prop := indexTellsRow.holds Try.pinned (OpenSpec.ofChange indexTellsWrong)

/-- 'manteletlaw15.IndexRefuses': WHATEVER THE INPUT: true; the input reads as it did. -/
def indexRefusesSpec : ChangeSpec := { name := "indexRefuses", fn := fun _ => fun
  | [d1, d2, d3] => { results := [.lit (.bool true)], args := [d1, d2, d3] }
  | _ => none }
def indexRefusesRow : OpenClaim := { program := "ytkcledkfgmdcgaa", sum := "b0a9b42c7daecf8ad87568b7b87e820d9b7ed929ef59945067508d0471e7432d", func := "mantelet/manteletlaw15.IndexRefuses", spec := "indexRefuses", unfollowed := true, recurses := true, apart := false }
def IndexRefusesSaid : Prop := indexRefusesRow.holds Try.pinned (OpenSpec.ofChange indexRefusesSpec)

/-- ITS FALSE NEIGHBOUR: 'it returns false'. Refute it at one input. -/
def indexRefusesWrong : ChangeSpec := { name := "indexRefuses", fn := fun _ => fun
  | [d1, d2, d3] => { results := [.lit (.bool false)], args := [d1, d2, d3] }
  | _ => none }
def IndexRefusesWrongFalsely : Prop := indexRefusesRow.holds Try.pinned (OpenSpec.ofChange indexRefusesWrong)

/-- 'manteletlaw15.IndexBack': WHATEVER THE INPUT: true; the input reads as it did. -/
def indexBackSpec : ChangeSpec := { name := "indexBack", fn := fun _ => fun
  | [d] => { results := [.lit (.bool true)], args := [d] }
  | _ => none }
def indexBackRow : OpenClaim := { program := "ytkcledkfgmdcgaa", sum := "b0a9b42c7daecf8ad87568b7b87e820d9b7ed929ef59945067508d0471e7432d", func := "mantelet/manteletlaw15.IndexBack", spec := "indexBack", unfollowed := true, recurses := true, apart := false }
def IndexBackSaid : Prop := indexBackRow.holds Try.pinned (OpenSpec.ofChange indexBackSpec)

/-- ITS FALSE NEIGHBOUR: 'it returns false'. Refute it at one input. -/
def indexBackWrong : ChangeSpec := { name := "indexBack", fn := fun _ => fun
  | [d] => { results := [.lit (.bool false)], args := [d] }
  | _ => none }
def IndexBackWrongFalsely : Prop := indexBackRow.holds Try.pinned (OpenSpec.ofChange indexBackWrong)

/-- 'manteletlaw15.IndexMany': WHATEVER THE INPUT: true; the input reads as it did. -/
def indexManySpec : ChangeSpec := { name := "indexMany", fn := fun _ => fun
  | [d1, d2] => { results := [.lit (.bool true)], args := [d1, d2] }
  | _ => none }
def indexManyRow : OpenClaim := { program := "ytkcledkfgmdcgaa", sum := "b0a9b42c7daecf8ad87568b7b87e820d9b7ed929ef59945067508d0471e7432d", func := "mantelet/manteletlaw15.IndexMany", spec := "indexMany", unfollowed := true, recurses := true, apart := false }
def IndexManySaid : Prop := indexManyRow.holds Try.pinned (OpenSpec.ofChange indexManySpec)

/-- ITS FALSE NEIGHBOUR: 'it returns false'. Refute it at one input. -/
def indexManyWrong : ChangeSpec := { name := "indexMany", fn := fun _ => fun
  | [d1, d2] => { results := [.lit (.bool false)], args := [d1, d2] }
  | _ => none }
def IndexManyWrongFalsely : Prop := indexManyRow.holds Try.pinned (OpenSpec.ofChange indexManyWrong)

/-- 'manteletlaw15.IndexRises': WHATEVER THE INPUT: true; the input reads as it did. -/
def indexRisesSpec : ChangeSpec := { name := "indexRises", fn := fun _ => fun
  | [d1, d2, d3] => { results := [.lit (.bool true)], args := [d1, d2, d3] }
  | _ => none }
def indexRisesRow : OpenClaim := { program := "ytkcledkfgmdcgaa", sum := "b0a9b42c7daecf8ad87568b7b87e820d9b7ed929ef59945067508d0471e7432d", func := "mantelet/manteletlaw15.IndexRises", spec := "indexRises", unfollowed := true, recurses := true, apart := false }
def IndexRisesSaid : Prop := indexRisesRow.holds Try.pinned (OpenSpec.ofChange indexRisesSpec)

/-- ITS FALSE NEIGHBOUR: 'it returns false'. Refute it at one input. -/
def indexRisesWrong : ChangeSpec := { name := "indexRises", fn := fun _ => fun
  | [d1, d2, d3] => { results := [.lit (.bool false)], args := [d1, d2, d3] }
  | _ => none }
def IndexRisesWrongFalsely : Prop := indexRisesRow.holds Try.pinned (OpenSpec.ofChange indexRisesWrong)

/-- 'manteletlaw15.IndexSums': WHATEVER THE INPUT: true; the input reads as it did. -/
def indexSumsSpec : ChangeSpec := { name := "indexSums", fn := fun _ => fun
  | [d] => { results := [.lit (.bool true)], args := [d] }
  | _ => none }
def indexSumsRow : OpenClaim := { program := "ytkcledkfgmdcgaa", sum := "b0a9b42c7daecf8ad87568b7b87e820d9b7ed929ef59945067508d0471e7432d", func := "mantelet/manteletlaw15.IndexSums", spec := "indexSums", unfollowed := true, recurses := true, apart := false }
def IndexSumsSaid : Prop := indexSumsRow.holds Try.pinned (OpenSpec.ofChange indexSumsSpec)

/-- ITS FALSE NEIGHBOUR: 'it returns false'. Refute it at one input. -/
def indexSumsWrong : ChangeSpec := { name := "indexSums", fn := fun _ => fun
  | [d] => { results := [.lit (.bool false)], args := [d] }
  | _ => none }
def IndexSumsWrongFalsely : Prop := indexSumsRow.holds Try.pinned (OpenSpec.ofChange indexSumsWrong)

/- THE SECOND FORM. 'bulk': how many values and letters a reading holds, each counted each time it is reached (what is shared counts as often as it is met; a slice's spare places count too). A statement '..UptoSaid' is the law's where the arguments, and the package variables that the reading takes, are together of bulk at most 1048576: NARROWER than '..Said'. Prove '..Said' where nothing that the law and all that it calls make is longer than what came in: it says more and counts as full. Else prove '..UptoSaid'. A law counts once. -/
mutual
def uptoBulk {H : Type} : DataW H → Nat
  | .lit (.string bytes) => bytes.length + 1
  | .lit _ => 1
  | .nil => 1
  | .ptr d => uptoBulk d + 1
  | .slice elems spare => uptoBulkAll elems + uptoBulkAll spare + 1
  | .agg parts => uptoBulkAll parts + 1
  | .iface _ d => uptoBulk d + 1
  | .map entries => uptoBulkEntries entries + 1
  | .held _ => 1
def uptoBulkAll {H : Type} : List (DataW H) → Nat
  | [] => 0
  | d :: r => uptoBulk d + uptoBulkAll r
def uptoBulkEntries {H : Type} : List (Lit × DataW H) → Nat
  | [] => 0
  | x :: r => uptoBulkEntry x + uptoBulkEntries r
def uptoBulkEntry {H : Type} : Lit × DataW H → Nat
  | (.string bytes, d) => bytes.length + uptoBulk d + 1
  | (_, d) => uptoBulk d + 1
 end
def uptoSmall : (H : Type) → List (DataW H) → Bool := fun _ ds => decide (uptoBulkAll ds ≤ 1048576)
def OpenSpec.upto (s : _root_.Go.ChangeSpec) : _root_.Go.OpenSpec := { _root_.Go.OpenSpec.ofChange s with cond := some uptoSmall }

/-- 'manteletlaw15.IndexTells', WHERE WHAT IT READS IS OF BULK AT MOST 1048576: true; the input reads as it did. -/
def indexTellsUptoRow : OpenClaim := { program := "ytkcledkfgmdcgaa", sum := "b0a9b42c7daecf8ad87568b7b87e820d9b7ed929ef59945067508d0471e7432d", func := "mantelet/manteletlaw15.IndexTells", spec := "indexTells", unfollowed := true, recurses := true, apart := false, narrowed := true }
def IndexTellsUptoSaid : Prop := indexTellsUptoRow.holds Try.pinned (OpenSpec.upto indexTellsSpec)

/-- 'manteletlaw15.IndexRefuses', WHERE WHAT IT READS IS OF BULK AT MOST 1048576: true; the input reads as it did. -/
def indexRefusesUptoRow : OpenClaim := { program := "ytkcledkfgmdcgaa", sum := "b0a9b42c7daecf8ad87568b7b87e820d9b7ed929ef59945067508d0471e7432d", func := "mantelet/manteletlaw15.IndexRefuses", spec := "indexRefuses", unfollowed := true, recurses := true, apart := false, narrowed := true }
def IndexRefusesUptoSaid : Prop := indexRefusesUptoRow.holds Try.pinned (OpenSpec.upto indexRefusesSpec)

/-- 'manteletlaw15.IndexBack', WHERE WHAT IT READS IS OF BULK AT MOST 1048576: true; the input reads as it did. -/
def indexBackUptoRow : OpenClaim := { program := "ytkcledkfgmdcgaa", sum := "b0a9b42c7daecf8ad87568b7b87e820d9b7ed929ef59945067508d0471e7432d", func := "mantelet/manteletlaw15.IndexBack", spec := "indexBack", unfollowed := true, recurses := true, apart := false, narrowed := true }
def IndexBackUptoSaid : Prop := indexBackUptoRow.holds Try.pinned (OpenSpec.upto indexBackSpec)

/-- 'manteletlaw15.IndexMany', WHERE WHAT IT READS IS OF BULK AT MOST 1048576: true; the input reads as it did. -/
def indexManyUptoRow : OpenClaim := { program := "ytkcledkfgmdcgaa", sum := "b0a9b42c7daecf8ad87568b7b87e820d9b7ed929ef59945067508d0471e7432d", func := "mantelet/manteletlaw15.IndexMany", spec := "indexMany", unfollowed := true, recurses := true, apart := false, narrowed := true }
def IndexManyUptoSaid : Prop := indexManyUptoRow.holds Try.pinned (OpenSpec.upto indexManySpec)

/-- 'manteletlaw15.IndexRises', WHERE WHAT IT READS IS OF BULK AT MOST 1048576: true; the input reads as it did. -/
def indexRisesUptoRow : OpenClaim := { program := "ytkcledkfgmdcgaa", sum := "b0a9b42c7daecf8ad87568b7b87e820d9b7ed929ef59945067508d0471e7432d", func := "mantelet/manteletlaw15.IndexRises", spec := "indexRises", unfollowed := true, recurses := true, apart := false, narrowed := true }
def IndexRisesUptoSaid : Prop := indexRisesUptoRow.holds Try.pinned (OpenSpec.upto indexRisesSpec)

/-- 'manteletlaw15.IndexSums', WHERE WHAT IT READS IS OF BULK AT MOST 1048576: true; the input reads as it did. -/
def indexSumsUptoRow : OpenClaim := { program := "ytkcledkfgmdcgaa", sum := "b0a9b42c7daecf8ad87568b7b87e820d9b7ed929ef59945067508d0471e7432d", func := "mantelet/manteletlaw15.IndexSums", spec := "indexSums", unfollowed := true, recurses := true, apart := false, narrowed := true }
def IndexSumsUptoSaid : Prop := indexSumsUptoRow.holds Try.pinned (OpenSpec.upto indexSumsSpec)

end Rows
end Go.Proofs.Ytkcledkfgmdcgaa
