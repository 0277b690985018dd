/-
  DERIVED. GIVEN WITH THE SEED: THE CARDS: each row of YtfoeghabnbjbgaaDoorRows.lean that lists a variable, with what it lists TIED to the program's text (the seventh form; the later family's looks); each row that meets fmt, with fmt's text TOLD by the authors' own Lean function (tested against real Go, not proved from fmt's source: count such statements apart). THE CARD IS WHAT COUNTS. Prove the row's statement (the work); the ties are given (YtfoeghabnbjbgaaDoorTie.lean); close each card by the builder's one call (the guide's Derived/Test/ToyasCard.lean, 'card_holds'). Laid BY PROGRAM, IN A SANDBOX (cutbox-door.mjs). By AI agents, Wed Nov 11 2026. No macro, syntax, notation, axiom, sorry.
-/
import Derived.Test.YtfoeghabnbjbgaaDoorRows
import GoSem.ClaimSeven
namespace Go.Proofs.YtfoeghabnbjbgaaDoor
namespace Rows

/-- THE TIED CARD OF 'pentaglotlaw09.LexiconOwn'. -/
def lexiconOwnCard : Claim7 := { stood := { row := lexiconOwnRow, standIns := [], harness := (true, "2331ac7c614455a7b1db4a432fe26c64d2c40b68770391e2e368786ffd2bf4b8"), looks := false }, kinds := [], alts := [], laidByText := true, laidKinds := [.data, .pinned], laidTests := true, laidLooks := .later }
def LexiconOwnCardSaid : Prop := Claim7.holds Tryd.pinned (.plain (OpenSpec.ofChange lexiconOwnSpec)) lexiconOwnCard

/-- THE TIED CARD OF 'pentaglotlaw09.LexiconMerged'. -/
def lexiconMergedCard : Claim7 := { stood := { row := lexiconMergedRow, standIns := [], harness := (true, "2331ac7c614455a7b1db4a432fe26c64d2c40b68770391e2e368786ffd2bf4b8"), looks := false }, kinds := [], alts := [], laidByText := true, laidKinds := [.data, .pinned], laidTests := true, laidLooks := .later }
def LexiconMergedCardSaid : Prop := Claim7.holds Tryd.pinned (.plain (OpenSpec.ofChange lexiconMergedSpec)) lexiconMergedCard

/-- THE SECOND FORM's CARD OF 'pentaglotlaw09.LexiconOwn'. -/
def lexiconOwnUptoCard : Claim7 := { stood := { row := lexiconOwnUptoRow, standIns := [], harness := (true, "2331ac7c614455a7b1db4a432fe26c64d2c40b68770391e2e368786ffd2bf4b8"), looks := false }, kinds := [], alts := [], laidByText := true, laidKinds := [.data, .pinned], laidTests := true, laidLooks := .later }
def LexiconOwnUptoCardSaid : Prop := Claim7.holds Tryd.pinned (.plain (OpenSpec.upto lexiconOwnSpec)) lexiconOwnUptoCard

/-- THE SECOND FORM's CARD OF 'pentaglotlaw09.LexiconMerged'. -/
def lexiconMergedUptoCard : Claim7 := { stood := { row := lexiconMergedUptoRow, standIns := [], harness := (true, "2331ac7c614455a7b1db4a432fe26c64d2c40b68770391e2e368786ffd2bf4b8"), looks := false }, kinds := [], alts := [], laidByText := true, laidKinds := [.data, .pinned], laidTests := true, laidLooks := .later }
def LexiconMergedUptoCardSaid : Prop := Claim7.holds Tryd.pinned (.plain (OpenSpec.upto lexiconMergedSpec)) lexiconMergedUptoCard
end Rows
end Go.Proofs.YtfoeghabnbjbgaaDoor
