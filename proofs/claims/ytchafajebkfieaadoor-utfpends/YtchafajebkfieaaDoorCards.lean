/-
  DERIVED. GIVEN WITH THE SEED: THE CARDS: each row of YtchafajebkfieaaDoorRows.lean that lists a variable, with what it lists TIED to the program's text (the seventh form; the later family's looks); each row that meets fmt, with fmt's text TOLD by the authors' own Lean function (tested against real Go, not proved from fmt's source: count such statements apart). THE CARD IS WHAT COUNTS. Prove the row's statement (the work); the ties are given (YtchafajebkfieaaDoorTie.lean); close each card by the builder's one call (the guide's Derived/Test/ToyasCard.lean, 'card_holds'). Laid BY PROGRAM, IN A SANDBOX (cutbox-door.mjs). By AI agents, Wed Nov 11 2026. No macro, syntax, notation, axiom, sorry.
-/
import Derived.Test.YtchafajebkfieaaDoorRows
import GoSem.ClaimSeven
namespace Go.Proofs.YtchafajebkfieaaDoor
namespace Rows

/-- THE TIED CARD OF 'manteletlaw04.UtfTells'. -/
def utfTellsCard : Claim7 := { stood := { row := utfTellsRow, standIns := [], harness := (true, "34594bd829618d443fc004d0488f0d7e5db30fb524e68a9fca37628f9cfa13e2"), looks := false }, kinds := [], alts := [], laidByText := true, laidKinds := [.data, .pinned], laidTests := true, laidLooks := .later }
def UtfTellsCardSaid : Prop := Claim7.holds Tryd.pinned (.plain (OpenSpec.ofChange utfTellsSpec)) utfTellsCard

/-- THE TIED CARD OF 'manteletlaw04.UtfChunks'. -/
def utfChunksCard : Claim7 := { stood := { row := utfChunksRow, standIns := [], harness := (true, "34594bd829618d443fc004d0488f0d7e5db30fb524e68a9fca37628f9cfa13e2"), looks := false }, kinds := [], alts := [], laidByText := true, laidKinds := [.data, .pinned], laidTests := true, laidLooks := .later }
def UtfChunksCardSaid : Prop := Claim7.holds Tryd.pinned (.plain (OpenSpec.ofChange utfChunksSpec)) utfChunksCard

/-- THE TIED CARD OF 'manteletlaw04.UtfText'. -/
def utfTextCard : Claim7 := { stood := { row := utfTextRow, standIns := [], harness := (true, "34594bd829618d443fc004d0488f0d7e5db30fb524e68a9fca37628f9cfa13e2"), looks := false }, kinds := [], alts := [], laidByText := true, laidKinds := [.data, .pinned], laidTests := true, laidLooks := .later }
def UtfTextCardSaid : Prop := Claim7.holds Tryd.pinned (.plain (OpenSpec.ofChange utfTextSpec)) utfTextCard

/-- THE TIED CARD OF 'manteletlaw04.UtfSplit'. -/
def utfSplitCard : Claim7 := { stood := { row := utfSplitRow, standIns := [], harness := (true, "34594bd829618d443fc004d0488f0d7e5db30fb524e68a9fca37628f9cfa13e2"), looks := false }, kinds := [], alts := [], laidByText := true, laidKinds := [.data, .pinned], laidTests := true, laidLooks := .later }
def UtfSplitCardSaid : Prop := Claim7.holds Tryd.pinned (.plain (OpenSpec.ofChange utfSplitSpec)) utfSplitCard

/-- THE TIED CARD OF 'manteletlaw04.UtfPends'. -/
def utfPendsCard : Claim7 := { stood := { row := utfPendsRow, standIns := [], harness := (true, "34594bd829618d443fc004d0488f0d7e5db30fb524e68a9fca37628f9cfa13e2"), looks := false }, kinds := [], alts := [], laidByText := true, laidKinds := [.data, .pinned], laidTests := true, laidLooks := .later }
def UtfPendsCardSaid : Prop := Claim7.holds Tryd.pinned (.plain (OpenSpec.ofChange utfPendsSpec)) utfPendsCard

/-- THE TIED CARD OF 'manteletlaw04.UtfLetters'. -/
def utfLettersCard : Claim7 := { stood := { row := utfLettersRow, standIns := [], harness := (true, "34594bd829618d443fc004d0488f0d7e5db30fb524e68a9fca37628f9cfa13e2"), looks := false }, kinds := [], alts := [], laidByText := true, laidKinds := [.data, .pinned], laidTests := true, laidLooks := .later }
def UtfLettersCardSaid : Prop := Claim7.holds Tryd.pinned (.plain (OpenSpec.ofChange utfLettersSpec)) utfLettersCard

/-- THE SECOND FORM's CARD OF 'manteletlaw04.UtfTells'. -/
def utfTellsUptoCard : Claim7 := { stood := { row := utfTellsUptoRow, standIns := [], harness := (true, "34594bd829618d443fc004d0488f0d7e5db30fb524e68a9fca37628f9cfa13e2"), looks := false }, kinds := [], alts := [], laidByText := true, laidKinds := [.data, .pinned], laidTests := true, laidLooks := .later }
def UtfTellsUptoCardSaid : Prop := Claim7.holds Tryd.pinned (.plain (OpenSpec.upto utfTellsSpec)) utfTellsUptoCard

/-- THE SECOND FORM's CARD OF 'manteletlaw04.UtfChunks'. -/
def utfChunksUptoCard : Claim7 := { stood := { row := utfChunksUptoRow, standIns := [], harness := (true, "34594bd829618d443fc004d0488f0d7e5db30fb524e68a9fca37628f9cfa13e2"), looks := false }, kinds := [], alts := [], laidByText := true, laidKinds := [.data, .pinned], laidTests := true, laidLooks := .later }
def UtfChunksUptoCardSaid : Prop := Claim7.holds Tryd.pinned (.plain (OpenSpec.upto utfChunksSpec)) utfChunksUptoCard

/-- THE SECOND FORM's CARD OF 'manteletlaw04.UtfText'. -/
def utfTextUptoCard : Claim7 := { stood := { row := utfTextUptoRow, standIns := [], harness := (true, "34594bd829618d443fc004d0488f0d7e5db30fb524e68a9fca37628f9cfa13e2"), looks := false }, kinds := [], alts := [], laidByText := true, laidKinds := [.data, .pinned], laidTests := true, laidLooks := .later }
def UtfTextUptoCardSaid : Prop := Claim7.holds Tryd.pinned (.plain (OpenSpec.upto utfTextSpec)) utfTextUptoCard

/-- THE SECOND FORM's CARD OF 'manteletlaw04.UtfSplit'. -/
def utfSplitUptoCard : Claim7 := { stood := { row := utfSplitUptoRow, standIns := [], harness := (true, "34594bd829618d443fc004d0488f0d7e5db30fb524e68a9fca37628f9cfa13e2"), looks := false }, kinds := [], alts := [], laidByText := true, laidKinds := [.data, .pinned], laidTests := true, laidLooks := .later }
def UtfSplitUptoCardSaid : Prop := Claim7.holds Tryd.pinned (.plain (OpenSpec.upto utfSplitSpec)) utfSplitUptoCard

/-- THE SECOND FORM's CARD OF 'manteletlaw04.UtfPends'. -/
def utfPendsUptoCard : Claim7 := { stood := { row := utfPendsUptoRow, standIns := [], harness := (true, "34594bd829618d443fc004d0488f0d7e5db30fb524e68a9fca37628f9cfa13e2"), looks := false }, kinds := [], alts := [], laidByText := true, laidKinds := [.data, .pinned], laidTests := true, laidLooks := .later }
def UtfPendsUptoCardSaid : Prop := Claim7.holds Tryd.pinned (.plain (OpenSpec.upto utfPendsSpec)) utfPendsUptoCard

/-- THE SECOND FORM's CARD OF 'manteletlaw04.UtfLetters'. -/
def utfLettersUptoCard : Claim7 := { stood := { row := utfLettersUptoRow, standIns := [], harness := (true, "34594bd829618d443fc004d0488f0d7e5db30fb524e68a9fca37628f9cfa13e2"), looks := false }, kinds := [], alts := [], laidByText := true, laidKinds := [.data, .pinned], laidTests := true, laidLooks := .later }
def UtfLettersUptoCardSaid : Prop := Claim7.holds Tryd.pinned (.plain (OpenSpec.upto utfLettersSpec)) utfLettersUptoCard
end Rows
end Go.Proofs.YtchafajebkfieaaDoor
