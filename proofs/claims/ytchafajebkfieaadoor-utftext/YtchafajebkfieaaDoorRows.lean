/-
  NARROWER THAN 'FOR EVERY INPUT', by the rows' own cells (each row's printed sentence says how): UtfTells: laid · UtfChunks: laid · UtfText: laid · UtfSplit: laid · UtfPends: laid · UtfLetters: laid.
  DERIVED. THE GIVEN ROWS OF THIS SEAT. 6 by the template 'for every input the law returns true; each argument reads behind the call as it read before'; 0 by the template 'total and deterministic' (their statements: YtchafajebkfieaaDoorTotals.lean).
  GIVEN WITH THE SEED: the statements are not yours to turn. If you find one false, say at which input.
  Laid BY PROGRAM, IN A SANDBOX (cutbox-rows.mjs): the forced cells as the released guide's own fill.sh prints them over the translation 8d9bb9c334bbfb90… (all of the seat's roots in one cut). By AI agents, Wed Nov 11 2026. No macro, syntax, notation, axiom, sorry.
-/
import Derived.Test.YtchafajebkfieaaDoorChecked
import GoSem.PinnedTables
import GoSem.Claim
import GoSem.ClaimJoined
import GoSem.ClaimMapViews
import Derived.JoinedTies
import Derived.KernelRfl
namespace Go.Proofs.YtchafajebkfieaaDoor
/- THE CELL 'sum', in the pinned program and in every row, IS THE sha256 OF THE DUMP (.gsa) THAT YtchafajebkfieaaDoorProg.lean LOADS. Nothing in Lean hashes anything: it is a label: what it is worth is what the hold of that sum in a sandbox is worth. -/
noncomputable def Tryd.pinned : Pinned := { name := "ytchafajebkfieaadoor", sum := "8d9bb9c334bbfb90f4313971e0f865bd8e6d3e9cf1658a6756f64bf33996e977", checked := Tryd.checked }
namespace Rows
def none {H : Type} : Left H := { results := [], args := [] }

/- WHAT THE LISTED PACKAGE-LEVEL VARIABLES READ AS WHEN THE CALL BEGINS. Each datum BY PROGRAM (the guide's laid-datum.mjs) off the statement by which the dump's own 'gosem.cut.vars' lays the variable. In a bare row this is a premise. The card (YtchafajebkfieaaDoorCards.lean) ties it to the program's text. -/
def laid_unicode_utf8_acceptRanges {H : Type} : DataW H := .agg [.agg [.lit (.int .u8 128), .lit (.int .u8 191)], .agg [.lit (.int .u8 160), .lit (.int .u8 191)], .agg [.lit (.int .u8 128), .lit (.int .u8 159)], .agg [.lit (.int .u8 144), .lit (.int .u8 191)], .agg [.lit (.int .u8 128), .lit (.int .u8 143)], .agg [.lit (.int .u8 0), .lit (.int .u8 0)], .agg [.lit (.int .u8 0), .lit (.int .u8 0)], .agg [.lit (.int .u8 0), .lit (.int .u8 0)], .agg [.lit (.int .u8 0), .lit (.int .u8 0)], .agg [.lit (.int .u8 0), .lit (.int .u8 0)], .agg [.lit (.int .u8 0), .lit (.int .u8 0)], .agg [.lit (.int .u8 0), .lit (.int .u8 0)], .agg [.lit (.int .u8 0), .lit (.int .u8 0)], .agg [.lit (.int .u8 0), .lit (.int .u8 0)], .agg [.lit (.int .u8 0), .lit (.int .u8 0)], .agg [.lit (.int .u8 0), .lit (.int .u8 0)]]
/-- One of Go's own tables, pinned by name: the form's constant. -/
def laid_unicode_utf8_first : DataW Unit := Go.Pinned.utf8First

/-- 'manteletlaw04.UtfTells': WHATEVER THE INPUT: true; the input reads as it did. -/
def utfTellsSpec : ChangeSpec := { name := "utfTells", fn := fun _ => fun
  | [d1, d2] => { results := [.lit (.bool true)], args := [d1, d2] }
  | _ => none }
def utfTellsRow : OpenClaim := { program := "ytchafajebkfieaadoor", sum := "8d9bb9c334bbfb90f4313971e0f865bd8e6d3e9cf1658a6756f64bf33996e977", func := "mantelet/manteletlaw04.UtfTells", spec := "utfTells", named := ["unicode/utf8.first", "unicode/utf8.acceptRanges"], apart := false, laid := [("unicode/utf8.acceptRanges", laid_unicode_utf8_acceptRanges), ("unicode/utf8.first", laid_unicode_utf8_first)] }
def UtfTellsSaid : Prop := utfTellsRow.holds Tryd.pinned (OpenSpec.ofChange utfTellsSpec)

/-- ITS FALSE NEIGHBOUR: 'it returns false'. Refute it at one input. -/
def utfTellsWrong : ChangeSpec := { name := "utfTells", fn := fun _ => fun
  | [d1, d2] => { results := [.lit (.bool false)], args := [d1, d2] }
  | _ => none }
def UtfTellsWrongFalsely : Prop := utfTellsRow.holds Tryd.pinned (OpenSpec.ofChange utfTellsWrong)

/-- 'manteletlaw04.UtfChunks': WHATEVER THE INPUT: true; the input reads as it did. -/
def utfChunksSpec : ChangeSpec := { name := "utfChunks", fn := fun _ => fun
  | [d] => { results := [.lit (.bool true)], args := [d] }
  | _ => none }
def utfChunksRow : OpenClaim := { program := "ytchafajebkfieaadoor", sum := "8d9bb9c334bbfb90f4313971e0f865bd8e6d3e9cf1658a6756f64bf33996e977", func := "mantelet/manteletlaw04.UtfChunks", spec := "utfChunks", named := ["unicode/utf8.first", "unicode/utf8.acceptRanges"], apart := false, laid := [("unicode/utf8.acceptRanges", laid_unicode_utf8_acceptRanges), ("unicode/utf8.first", laid_unicode_utf8_first)] }
def UtfChunksSaid : Prop := utfChunksRow.holds Tryd.pinned (OpenSpec.ofChange utfChunksSpec)

/-- ITS FALSE NEIGHBOUR: 'it returns false'. Refute it at one input. -/
def utfChunksWrong : ChangeSpec := { name := "utfChunks", fn := fun _ => fun
  | [d] => { results := [.lit (.bool false)], args := [d] }
  | _ => none }
def UtfChunksWrongFalsely : Prop := utfChunksRow.holds Tryd.pinned (OpenSpec.ofChange utfChunksWrong)

/-- 'manteletlaw04.UtfText': WHATEVER THE INPUT: true; the input reads as it did. -/
def utfTextSpec : ChangeSpec := { name := "utfText", fn := fun _ => fun
  | [d] => { results := [.lit (.bool true)], args := [d] }
  | _ => none }
def utfTextRow : OpenClaim := { program := "ytchafajebkfieaadoor", sum := "8d9bb9c334bbfb90f4313971e0f865bd8e6d3e9cf1658a6756f64bf33996e977", func := "mantelet/manteletlaw04.UtfText", spec := "utfText", named := ["unicode/utf8.first", "unicode/utf8.acceptRanges"], apart := false, laid := [("unicode/utf8.acceptRanges", laid_unicode_utf8_acceptRanges), ("unicode/utf8.first", laid_unicode_utf8_first)] }
def UtfTextSaid : Prop := utfTextRow.holds Tryd.pinned (OpenSpec.ofChange utfTextSpec)

/-- ITS FALSE NEIGHBOUR: 'it returns false'. Refute it at one input. -/
def utfTextWrong : ChangeSpec := { name := "utfText", fn := fun _ => fun
  | [d] => { results := [.lit (.bool false)], args := [d] }
  | _ => none }
def UtfTextWrongFalsely : Prop := utfTextRow.holds Tryd.pinned (OpenSpec.ofChange utfTextWrong)

/-- 'manteletlaw04.UtfSplit': WHATEVER THE INPUT: true; the input reads as it did. -/
def utfSplitSpec : ChangeSpec := { name := "utfSplit", fn := fun _ => fun
  | [d1, d2] => { results := [.lit (.bool true)], args := [d1, d2] }
  | _ => none }
def utfSplitRow : OpenClaim := { program := "ytchafajebkfieaadoor", sum := "8d9bb9c334bbfb90f4313971e0f865bd8e6d3e9cf1658a6756f64bf33996e977", func := "mantelet/manteletlaw04.UtfSplit", spec := "utfSplit", named := ["unicode/utf8.first", "unicode/utf8.acceptRanges"], apart := false, laid := [("unicode/utf8.acceptRanges", laid_unicode_utf8_acceptRanges), ("unicode/utf8.first", laid_unicode_utf8_first)] }
def UtfSplitSaid : Prop := utfSplitRow.holds Tryd.pinned (OpenSpec.ofChange utfSplitSpec)

/-- ITS FALSE NEIGHBOUR: 'it returns false'. Refute it at one input. -/
def utfSplitWrong : ChangeSpec := { name := "utfSplit", fn := fun _ => fun
  | [d1, d2] => { results := [.lit (.bool false)], args := [d1, d2] }
  | _ => none }
def UtfSplitWrongFalsely : Prop := utfSplitRow.holds Tryd.pinned (OpenSpec.ofChange utfSplitWrong)

/-- 'manteletlaw04.UtfPends': WHATEVER THE INPUT: true; the input reads as it did. -/
def utfPendsSpec : ChangeSpec := { name := "utfPends", fn := fun _ => fun
  | [d] => { results := [.lit (.bool true)], args := [d] }
  | _ => none }
def utfPendsRow : OpenClaim := { program := "ytchafajebkfieaadoor", sum := "8d9bb9c334bbfb90f4313971e0f865bd8e6d3e9cf1658a6756f64bf33996e977", func := "mantelet/manteletlaw04.UtfPends", spec := "utfPends", named := ["unicode/utf8.first", "unicode/utf8.acceptRanges"], apart := false, laid := [("unicode/utf8.acceptRanges", laid_unicode_utf8_acceptRanges), ("unicode/utf8.first", laid_unicode_utf8_first)] }
def UtfPendsSaid : Prop := utfPendsRow.holds Tryd.pinned (OpenSpec.ofChange utfPendsSpec)

/-- ITS FALSE NEIGHBOUR: 'it returns false'. Refute it at one input. -/
def utfPendsWrong : ChangeSpec := { name := "utfPends", fn := fun _ => fun
  | [d] => { results := [.lit (.bool false)], args := [d] }
  | _ => none }
def UtfPendsWrongFalsely : Prop := utfPendsRow.holds Tryd.pinned (OpenSpec.ofChange utfPendsWrong)

/-- 'manteletlaw04.UtfLetters': WHATEVER THE INPUT: true; the input reads as it did. -/
def utfLettersSpec : ChangeSpec := { name := "utfLetters", fn := fun _ => fun
  | [d1, d2] => { results := [.lit (.bool true)], args := [d1, d2] }
  | _ => none }
def utfLettersRow : OpenClaim := { program := "ytchafajebkfieaadoor", sum := "8d9bb9c334bbfb90f4313971e0f865bd8e6d3e9cf1658a6756f64bf33996e977", func := "mantelet/manteletlaw04.UtfLetters", spec := "utfLetters", named := ["unicode/utf8.first", "unicode/utf8.acceptRanges"], apart := false, laid := [("unicode/utf8.acceptRanges", laid_unicode_utf8_acceptRanges), ("unicode/utf8.first", laid_unicode_utf8_first)] }
def UtfLettersSaid : Prop := utfLettersRow.holds Tryd.pinned (OpenSpec.ofChange utfLettersSpec)

/-- ITS FALSE NEIGHBOUR: 'it returns false'. Refute it at one input. -/
def utfLettersWrong : ChangeSpec := { name := "utfLetters", fn := fun _ => fun
  | [d1, d2] => { results := [.lit (.bool false)], args := [d1, d2] }
  | _ => none }
def UtfLettersWrongFalsely : Prop := utfLettersRow.holds Tryd.pinned (OpenSpec.ofChange utfLettersWrong)

/- THE SECOND FORM. 'bulk': how many values and letters a reading holds, each counted each time it is reached (what is shared counts as often as it is met; a slice's spare places count too). A statement '..UptoSaid' is the law's where the arguments, and the package variables that the reading takes, are together of bulk at most 1048576: NARROWER than '..Said'. Prove '..Said' where nothing that the law and all that it calls make is longer than what came in: it says more and counts as full. Else prove '..UptoSaid'. A law counts once. -/
mutual
def uptoBulk {H : Type} : DataW H → Nat
  | .lit (.string bytes) => bytes.length + 1
  | .lit _ => 1
  | .nil => 1
  | .ptr d => uptoBulk d + 1
  | .slice elems spare => uptoBulkAll elems + uptoBulkAll spare + 1
  | .agg parts => uptoBulkAll parts + 1
  | .iface _ d => uptoBulk d + 1
  | .map entries => uptoBulkEntries entries + 1
  | .held _ => 1
def uptoBulkAll {H : Type} : List (DataW H) → Nat
  | [] => 0
  | d :: r => uptoBulk d + uptoBulkAll r
def uptoBulkEntries {H : Type} : List (Lit × DataW H) → Nat
  | [] => 0
  | x :: r => uptoBulkEntry x + uptoBulkEntries r
def uptoBulkEntry {H : Type} : Lit × DataW H → Nat
  | (.string bytes, d) => bytes.length + uptoBulk d + 1
  | (_, d) => uptoBulk d + 1
 end
def uptoSmall : (H : Type) → List (DataW H) → Bool := fun _ ds => decide (uptoBulkAll ds ≤ 1048576)
def OpenSpec.upto (s : _root_.Go.ChangeSpec) : _root_.Go.OpenSpec := { _root_.Go.OpenSpec.ofChange s with cond := some uptoSmall }

/-- 'manteletlaw04.UtfTells', WHERE WHAT IT READS IS OF BULK AT MOST 1048576: true; the input reads as it did. -/
def utfTellsUptoRow : OpenClaim := { program := "ytchafajebkfieaadoor", sum := "8d9bb9c334bbfb90f4313971e0f865bd8e6d3e9cf1658a6756f64bf33996e977", func := "mantelet/manteletlaw04.UtfTells", spec := "utfTells", named := ["unicode/utf8.first", "unicode/utf8.acceptRanges"], apart := false, laid := [("unicode/utf8.acceptRanges", laid_unicode_utf8_acceptRanges), ("unicode/utf8.first", laid_unicode_utf8_first)], narrowed := true }
def UtfTellsUptoSaid : Prop := utfTellsUptoRow.holds Tryd.pinned (OpenSpec.upto utfTellsSpec)

/-- 'manteletlaw04.UtfChunks', WHERE WHAT IT READS IS OF BULK AT MOST 1048576: true; the input reads as it did. -/
def utfChunksUptoRow : OpenClaim := { program := "ytchafajebkfieaadoor", sum := "8d9bb9c334bbfb90f4313971e0f865bd8e6d3e9cf1658a6756f64bf33996e977", func := "mantelet/manteletlaw04.UtfChunks", spec := "utfChunks", named := ["unicode/utf8.first", "unicode/utf8.acceptRanges"], apart := false, laid := [("unicode/utf8.acceptRanges", laid_unicode_utf8_acceptRanges), ("unicode/utf8.first", laid_unicode_utf8_first)], narrowed := true }
def UtfChunksUptoSaid : Prop := utfChunksUptoRow.holds Tryd.pinned (OpenSpec.upto utfChunksSpec)

/-- 'manteletlaw04.UtfText', WHERE WHAT IT READS IS OF BULK AT MOST 1048576: true; the input reads as it did. -/
def utfTextUptoRow : OpenClaim := { program := "ytchafajebkfieaadoor", sum := "8d9bb9c334bbfb90f4313971e0f865bd8e6d3e9cf1658a6756f64bf33996e977", func := "mantelet/manteletlaw04.UtfText", spec := "utfText", named := ["unicode/utf8.first", "unicode/utf8.acceptRanges"], apart := false, laid := [("unicode/utf8.acceptRanges", laid_unicode_utf8_acceptRanges), ("unicode/utf8.first", laid_unicode_utf8_first)], narrowed := true }
def UtfTextUptoSaid : Prop := utfTextUptoRow.holds Tryd.pinned (OpenSpec.upto utfTextSpec)

/-- 'manteletlaw04.UtfSplit', WHERE WHAT IT READS IS OF BULK AT MOST 1048576: true; the input reads as it did. -/
def utfSplitUptoRow : OpenClaim := { program := "ytchafajebkfieaadoor", sum := "8d9bb9c334bbfb90f4313971e0f865bd8e6d3e9cf1658a6756f64bf33996e977", func := "mantelet/manteletlaw04.UtfSplit", spec := "utfSplit", named := ["unicode/utf8.first", "unicode/utf8.acceptRanges"], apart := false, laid := [("unicode/utf8.acceptRanges", laid_unicode_utf8_acceptRanges), ("unicode/utf8.first", laid_unicode_utf8_first)], narrowed := true }
def UtfSplitUptoSaid : Prop := utfSplitUptoRow.holds Tryd.pinned (OpenSpec.upto utfSplitSpec)

/-- 'manteletlaw04.UtfPends', WHERE WHAT IT READS IS OF BULK AT MOST 1048576: true; the input reads as it did. -/
def utfPendsUptoRow : OpenClaim := { program := "ytchafajebkfieaadoor", sum := "8d9bb9c334bbfb90f4313971e0f865bd8e6d3e9cf1658a6756f64bf33996e977", func := "mantelet/manteletlaw04.UtfPends", spec := "utfPends", named := ["unicode/utf8.first", "unicode/utf8.acceptRanges"], apart := false, laid := [("unicode/utf8.acceptRanges", laid_unicode_utf8_acceptRanges), ("unicode/utf8.first", laid_unicode_utf8_first)], narrowed := true }
def UtfPendsUptoSaid : Prop := utfPendsUptoRow.holds Tryd.pinned (OpenSpec.upto utfPendsSpec)

/-- 'manteletlaw04.UtfLetters', WHERE WHAT IT READS IS OF BULK AT MOST 1048576: true; the input reads as it did. -/
def utfLettersUptoRow : OpenClaim := { program := "ytchafajebkfieaadoor", sum := "8d9bb9c334bbfb90f4313971e0f865bd8e6d3e9cf1658a6756f64bf33996e977", func := "mantelet/manteletlaw04.UtfLetters", spec := "utfLetters", named := ["unicode/utf8.first", "unicode/utf8.acceptRanges"], apart := false, laid := [("unicode/utf8.acceptRanges", laid_unicode_utf8_acceptRanges), ("unicode/utf8.first", laid_unicode_utf8_first)], narrowed := true }
def UtfLettersUptoSaid : Prop := utfLettersUptoRow.holds Tryd.pinned (OpenSpec.upto utfLettersSpec)

end Rows
end Go.Proofs.YtchafajebkfieaaDoor
