/-
  NARROWER THAN 'FOR EVERY INPUT', by the rows' own cells (each row's printed sentence says how): FoldTells: laid · FoldAll: laid · FoldTwice: laid · FoldTexts: laid · FoldPlain: laid.
  DERIVED. THE GIVEN ROWS OF THIS SEAT. 5 by the template 'for every input the law returns true; each argument reads behind the call as it read before'; 0 by the template 'total and deterministic' (their statements: YtalfganfifkgjaaDoorTotals.lean).
  GIVEN WITH THE SEED: the statements are not yours to turn. If you find one false, say at which input.
  Laid BY PROGRAM, IN A SANDBOX (cutbox-rows.mjs): the forced cells as the released guide's own fill.sh prints them over the translation 67698a219bdf4c87… (all of the seat's roots in one cut). By AI agents, Wed Nov 11 2026. No macro, syntax, notation, axiom, sorry.
-/
import Derived.Test.YtalfganfifkgjaaDoorChecked
import GoSem.Claim
import GoSem.ClaimJoined
import GoSem.ClaimMapViews
import Derived.JoinedTies
import Derived.KernelRfl
namespace Go.Proofs.YtalfganfifkgjaaDoor
/- THE CELL 'sum', in the pinned program and in every row, IS THE sha256 OF THE DUMP (.gsa) THAT YtalfganfifkgjaaDoorProg.lean LOADS. Nothing in Lean hashes anything: it is a label: what it is worth is what the hold of that sum in a sandbox is worth. -/
noncomputable def Tryd.pinned : Pinned := { name := "ytalfganfifkgjaadoor", sum := "67698a219bdf4c87623d5de4c609dce80362f14a0bacecb3be1c2810a4010c7c", checked := Tryd.checked }
namespace Rows
def none {H : Type} : Left H := { results := [], args := [] }

/- WHAT THE LISTED PACKAGE-LEVEL VARIABLES READ AS WHEN THE CALL BEGINS. Each datum BY PROGRAM (the guide's laid-datum.mjs) off the statement by which the dump's own 'gosem.cut.vars' lays the variable. In a bare row this is a premise. The card (YtalfganfifkgjaaDoorCards.lean) ties it to the program's text. -/
def laid_mantelet_fold_letterSpans {H : Type} : DataW H := .agg [.agg [.lit (.int .i32 65), .lit (.int .i32 90)], .agg [.lit (.int .i32 97), .lit (.int .i32 122)], .agg [.lit (.int .i32 192), .lit (.int .i32 214)], .agg [.lit (.int .i32 216), .lit (.int .i32 246)], .agg [.lit (.int .i32 248), .lit (.int .i32 383)], .agg [.lit (.int .i32 913), .lit (.int .i32 929)], .agg [.lit (.int .i32 931), .lit (.int .i32 974)], .agg [.lit (.int .i32 1024), .lit (.int .i32 1119)]]
def laid_mantelet_fold_greatSpans {H : Type} : DataW H := .agg [.agg [.lit (.int .i32 65), .lit (.int .i32 90), .lit (.int .i32 1), .lit (.int .i32 32)], .agg [.lit (.int .i32 192), .lit (.int .i32 214), .lit (.int .i32 1), .lit (.int .i32 32)], .agg [.lit (.int .i32 216), .lit (.int .i32 222), .lit (.int .i32 1), .lit (.int .i32 32)], .agg [.lit (.int .i32 256), .lit (.int .i32 302), .lit (.int .i32 2), .lit (.int .i32 1)], .agg [.lit (.int .i32 306), .lit (.int .i32 310), .lit (.int .i32 2), .lit (.int .i32 1)], .agg [.lit (.int .i32 313), .lit (.int .i32 327), .lit (.int .i32 2), .lit (.int .i32 1)], .agg [.lit (.int .i32 330), .lit (.int .i32 374), .lit (.int .i32 2), .lit (.int .i32 1)], .agg [.lit (.int .i32 376), .lit (.int .i32 376), .lit (.int .i32 1), .lit (.int .i32 (-121))], .agg [.lit (.int .i32 377), .lit (.int .i32 381), .lit (.int .i32 2), .lit (.int .i32 1)], .agg [.lit (.int .i32 913), .lit (.int .i32 929), .lit (.int .i32 1), .lit (.int .i32 32)], .agg [.lit (.int .i32 931), .lit (.int .i32 939), .lit (.int .i32 1), .lit (.int .i32 32)], .agg [.lit (.int .i32 962), .lit (.int .i32 962), .lit (.int .i32 1), .lit (.int .i32 1)], .agg [.lit (.int .i32 1024), .lit (.int .i32 1039), .lit (.int .i32 1), .lit (.int .i32 80)], .agg [.lit (.int .i32 1040), .lit (.int .i32 1071), .lit (.int .i32 1), .lit (.int .i32 32)]]

/-- 'manteletlaw05.FoldTells': WHATEVER THE INPUT: true; the input reads as it did. -/
def foldTellsSpec : ChangeSpec := { name := "foldTells", fn := fun _ => fun
  | [d1, d2] => { results := [.lit (.bool true)], args := [d1, d2] }
  | _ => none }
def foldTellsRow : OpenClaim := { program := "ytalfganfifkgjaadoor", sum := "67698a219bdf4c87623d5de4c609dce80362f14a0bacecb3be1c2810a4010c7c", func := "mantelet/manteletlaw05.FoldTells", spec := "foldTells", inPlace := ["internal/abi.NoEscape"], named := ["mantelet/fold.greatSpans", "mantelet/fold.letterSpans"], apart := false, laid := [("mantelet/fold.letterSpans", laid_mantelet_fold_letterSpans), ("mantelet/fold.greatSpans", laid_mantelet_fold_greatSpans)] }
def FoldTellsSaid : Prop := foldTellsRow.holds Tryd.pinned (OpenSpec.ofChange foldTellsSpec)

/-- ITS FALSE NEIGHBOUR: 'it returns false'. Refute it at one input. -/
def foldTellsWrong : ChangeSpec := { name := "foldTells", fn := fun _ => fun
  | [d1, d2] => { results := [.lit (.bool false)], args := [d1, d2] }
  | _ => none }
def FoldTellsWrongFalsely : Prop := foldTellsRow.holds Tryd.pinned (OpenSpec.ofChange foldTellsWrong)

/-- 'manteletlaw05.FoldAll': WHATEVER THE INPUT: true; the input reads as it did. -/
def foldAllSpec : ChangeSpec := { name := "foldAll", fn := fun _ => fun
  | [d] => { results := [.lit (.bool true)], args := [d] }
  | _ => none }
def foldAllRow : OpenClaim := { program := "ytalfganfifkgjaadoor", sum := "67698a219bdf4c87623d5de4c609dce80362f14a0bacecb3be1c2810a4010c7c", func := "mantelet/manteletlaw05.FoldAll", spec := "foldAll", inPlace := ["internal/abi.NoEscape"], named := ["mantelet/fold.greatSpans", "mantelet/fold.letterSpans"], apart := false, laid := [("mantelet/fold.letterSpans", laid_mantelet_fold_letterSpans), ("mantelet/fold.greatSpans", laid_mantelet_fold_greatSpans)] }
def FoldAllSaid : Prop := foldAllRow.holds Tryd.pinned (OpenSpec.ofChange foldAllSpec)

/-- ITS FALSE NEIGHBOUR: 'it returns false'. Refute it at one input. -/
def foldAllWrong : ChangeSpec := { name := "foldAll", fn := fun _ => fun
  | [d] => { results := [.lit (.bool false)], args := [d] }
  | _ => none }
def FoldAllWrongFalsely : Prop := foldAllRow.holds Tryd.pinned (OpenSpec.ofChange foldAllWrong)

/-- 'manteletlaw05.FoldTwice': WHATEVER THE INPUT: true; the input reads as it did. -/
def foldTwiceSpec : ChangeSpec := { name := "foldTwice", fn := fun _ => fun
  | [d] => { results := [.lit (.bool true)], args := [d] }
  | _ => none }
def foldTwiceRow : OpenClaim := { program := "ytalfganfifkgjaadoor", sum := "67698a219bdf4c87623d5de4c609dce80362f14a0bacecb3be1c2810a4010c7c", func := "mantelet/manteletlaw05.FoldTwice", spec := "foldTwice", inPlace := ["internal/abi.NoEscape"], named := ["mantelet/fold.greatSpans", "mantelet/fold.letterSpans"], apart := false, laid := [("mantelet/fold.letterSpans", laid_mantelet_fold_letterSpans), ("mantelet/fold.greatSpans", laid_mantelet_fold_greatSpans)] }
def FoldTwiceSaid : Prop := foldTwiceRow.holds Tryd.pinned (OpenSpec.ofChange foldTwiceSpec)

/-- ITS FALSE NEIGHBOUR: 'it returns false'. Refute it at one input. -/
def foldTwiceWrong : ChangeSpec := { name := "foldTwice", fn := fun _ => fun
  | [d] => { results := [.lit (.bool false)], args := [d] }
  | _ => none }
def FoldTwiceWrongFalsely : Prop := foldTwiceRow.holds Tryd.pinned (OpenSpec.ofChange foldTwiceWrong)

/-- 'manteletlaw05.FoldTexts': WHATEVER THE INPUT: true; the input reads as it did. -/
def foldTextsSpec : ChangeSpec := { name := "foldTexts", fn := fun _ => fun
  | [d1, d2] => { results := [.lit (.bool true)], args := [d1, d2] }
  | _ => none }
def foldTextsRow : OpenClaim := { program := "ytalfganfifkgjaadoor", sum := "67698a219bdf4c87623d5de4c609dce80362f14a0bacecb3be1c2810a4010c7c", func := "mantelet/manteletlaw05.FoldTexts", spec := "foldTexts", inPlace := ["internal/abi.NoEscape"], named := ["mantelet/fold.greatSpans", "mantelet/fold.letterSpans"], apart := false, laid := [("mantelet/fold.letterSpans", laid_mantelet_fold_letterSpans), ("mantelet/fold.greatSpans", laid_mantelet_fold_greatSpans)] }
def FoldTextsSaid : Prop := foldTextsRow.holds Tryd.pinned (OpenSpec.ofChange foldTextsSpec)

/-- ITS FALSE NEIGHBOUR: 'it returns false'. Refute it at one input. -/
def foldTextsWrong : ChangeSpec := { name := "foldTexts", fn := fun _ => fun
  | [d1, d2] => { results := [.lit (.bool false)], args := [d1, d2] }
  | _ => none }
def FoldTextsWrongFalsely : Prop := foldTextsRow.holds Tryd.pinned (OpenSpec.ofChange foldTextsWrong)

/-- 'manteletlaw05.FoldPlain': WHATEVER THE INPUT: true; the input reads as it did. -/
def foldPlainSpec : ChangeSpec := { name := "foldPlain", fn := fun _ => fun
  | [d] => { results := [.lit (.bool true)], args := [d] }
  | _ => none }
def foldPlainRow : OpenClaim := { program := "ytalfganfifkgjaadoor", sum := "67698a219bdf4c87623d5de4c609dce80362f14a0bacecb3be1c2810a4010c7c", func := "mantelet/manteletlaw05.FoldPlain", spec := "foldPlain", inPlace := ["internal/abi.NoEscape"], named := ["mantelet/fold.greatSpans", "mantelet/fold.letterSpans"], apart := false, laid := [("mantelet/fold.letterSpans", laid_mantelet_fold_letterSpans), ("mantelet/fold.greatSpans", laid_mantelet_fold_greatSpans)] }
def FoldPlainSaid : Prop := foldPlainRow.holds Tryd.pinned (OpenSpec.ofChange foldPlainSpec)

/-- ITS FALSE NEIGHBOUR: 'it returns false'. Refute it at one input. -/
def foldPlainWrong : ChangeSpec := { name := "foldPlain", fn := fun _ => fun
  | [d] => { results := [.lit (.bool false)], args := [d] }
  | _ => none }
def FoldPlainWrongFalsely : Prop := foldPlainRow.holds Tryd.pinned (OpenSpec.ofChange foldPlainWrong)

/- THE SECOND FORM. 'bulk': how many values and letters a reading holds, each counted each time it is reached (what is shared counts as often as it is met; a slice's spare places count too). A statement '..UptoSaid' is the law's where the arguments, and the package variables that the reading takes, are together of bulk at most 1048576: NARROWER than '..Said'. Prove '..Said' where nothing that the law and all that it calls make is longer than what came in: it says more and counts as full. Else prove '..UptoSaid'. A law counts once. -/
mutual
def uptoBulk {H : Type} : DataW H → Nat
  | .lit (.string bytes) => bytes.length + 1
  | .lit _ => 1
  | .nil => 1
  | .ptr d => uptoBulk d + 1
  | .slice elems spare => uptoBulkAll elems + uptoBulkAll spare + 1
  | .agg parts => uptoBulkAll parts + 1
  | .iface _ d => uptoBulk d + 1
  | .map entries => uptoBulkEntries entries + 1
  | .held _ => 1
def uptoBulkAll {H : Type} : List (DataW H) → Nat
  | [] => 0
  | d :: r => uptoBulk d + uptoBulkAll r
def uptoBulkEntries {H : Type} : List (Lit × DataW H) → Nat
  | [] => 0
  | x :: r => uptoBulkEntry x + uptoBulkEntries r
def uptoBulkEntry {H : Type} : Lit × DataW H → Nat
  | (.string bytes, d) => bytes.length + uptoBulk d + 1
  | (_, d) => uptoBulk d + 1
 end
def uptoSmall : (H : Type) → List (DataW H) → Bool := fun _ ds => decide (uptoBulkAll ds ≤ 1048576)
def OpenSpec.upto (s : _root_.Go.ChangeSpec) : _root_.Go.OpenSpec := { _root_.Go.OpenSpec.ofChange s with cond := some uptoSmall }

/-- 'manteletlaw05.FoldTells', WHERE WHAT IT READS IS OF BULK AT MOST 1048576: true; the input reads as it did. -/
def foldTellsUptoRow : OpenClaim := { program := "ytalfganfifkgjaadoor", sum := "67698a219bdf4c87623d5de4c609dce80362f14a0bacecb3be1c2810a4010c7c", func := "mantelet/manteletlaw05.FoldTells", spec := "foldTells", inPlace := ["internal/abi.NoEscape"], named := ["mantelet/fold.greatSpans", "mantelet/fold.letterSpans"], apart := false, laid := [("mantelet/fold.letterSpans", laid_mantelet_fold_letterSpans), ("mantelet/fold.greatSpans", laid_mantelet_fold_greatSpans)], narrowed := true }
def FoldTellsUptoSaid : Prop := foldTellsUptoRow.holds Tryd.pinned (OpenSpec.upto foldTellsSpec)

/-- 'manteletlaw05.FoldAll', WHERE WHAT IT READS IS OF BULK AT MOST 1048576: true; the input reads as it did. -/
def foldAllUptoRow : OpenClaim := { program := "ytalfganfifkgjaadoor", sum := "67698a219bdf4c87623d5de4c609dce80362f14a0bacecb3be1c2810a4010c7c", func := "mantelet/manteletlaw05.FoldAll", spec := "foldAll", inPlace := ["internal/abi.NoEscape"], named := ["mantelet/fold.greatSpans", "mantelet/fold.letterSpans"], apart := false, laid := [("mantelet/fold.letterSpans", laid_mantelet_fold_letterSpans), ("mantelet/fold.greatSpans", laid_mantelet_fold_greatSpans)], narrowed := true }
def FoldAllUptoSaid : Prop := foldAllUptoRow.holds Tryd.pinned (OpenSpec.upto foldAllSpec)

/-- 'manteletlaw05.FoldTwice', WHERE WHAT IT READS IS OF BULK AT MOST 1048576: true; the input reads as it did. -/
def foldTwiceUptoRow : OpenClaim := { program := "ytalfganfifkgjaadoor", sum := "67698a219bdf4c87623d5de4c609dce80362f14a0bacecb3be1c2810a4010c7c", func := "mantelet/manteletlaw05.FoldTwice", spec := "foldTwice", inPlace := ["internal/abi.NoEscape"], named := ["mantelet/fold.greatSpans", "mantelet/fold.letterSpans"], apart := false, laid := [("mantelet/fold.letterSpans", laid_mantelet_fold_letterSpans), ("mantelet/fold.greatSpans", laid_mantelet_fold_greatSpans)], narrowed := true }
def FoldTwiceUptoSaid : Prop := foldTwiceUptoRow.holds Tryd.pinned (OpenSpec.upto foldTwiceSpec)

/-- 'manteletlaw05.FoldTexts', WHERE WHAT IT READS IS OF BULK AT MOST 1048576: true; the input reads as it did. -/
def foldTextsUptoRow : OpenClaim := { program := "ytalfganfifkgjaadoor", sum := "67698a219bdf4c87623d5de4c609dce80362f14a0bacecb3be1c2810a4010c7c", func := "mantelet/manteletlaw05.FoldTexts", spec := "foldTexts", inPlace := ["internal/abi.NoEscape"], named := ["mantelet/fold.greatSpans", "mantelet/fold.letterSpans"], apart := false, laid := [("mantelet/fold.letterSpans", laid_mantelet_fold_letterSpans), ("mantelet/fold.greatSpans", laid_mantelet_fold_greatSpans)], narrowed := true }
def FoldTextsUptoSaid : Prop := foldTextsUptoRow.holds Tryd.pinned (OpenSpec.upto foldTextsSpec)

/-- 'manteletlaw05.FoldPlain', WHERE WHAT IT READS IS OF BULK AT MOST 1048576: true; the input reads as it did. -/
def foldPlainUptoRow : OpenClaim := { program := "ytalfganfifkgjaadoor", sum := "67698a219bdf4c87623d5de4c609dce80362f14a0bacecb3be1c2810a4010c7c", func := "mantelet/manteletlaw05.FoldPlain", spec := "foldPlain", inPlace := ["internal/abi.NoEscape"], named := ["mantelet/fold.greatSpans", "mantelet/fold.letterSpans"], apart := false, laid := [("mantelet/fold.letterSpans", laid_mantelet_fold_letterSpans), ("mantelet/fold.greatSpans", laid_mantelet_fold_greatSpans)], narrowed := true }
def FoldPlainUptoSaid : Prop := foldPlainUptoRow.holds Tryd.pinned (OpenSpec.upto foldPlainSpec)

end Rows
end Go.Proofs.YtalfganfifkgjaaDoor
