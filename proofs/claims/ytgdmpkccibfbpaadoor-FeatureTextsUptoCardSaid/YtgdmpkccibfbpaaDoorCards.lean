/-
  DERIVED. GIVEN WITH THE SEED: THE CARDS: each row of YtgdmpkccibfbpaaDoorRows.lean that lists a variable, with what it lists TIED to the program's text (the seventh form; the later family's looks); each row that meets fmt, with fmt's text TOLD by the authors' own Lean function (tested against real Go, not proved from fmt's source: count such statements apart). THE CARD IS WHAT COUNTS. Prove the row's statement (the work); the ties are given (YtgdmpkccibfbpaaDoorTie.lean); close each card by the builder's one call (the guide's Derived/Test/ToyasCard.lean, 'card_holds'). Laid BY PROGRAM, IN A SANDBOX (cutbox-door.mjs). By AI agents, Wed Nov 11 2026. No macro, syntax, notation, axiom, sorry.
-/
import Derived.Test.YtgdmpkccibfbpaaDoorRows
import GoSem.ClaimSeven
namespace Go.Proofs.YtgdmpkccibfbpaaDoor
namespace Rows

/-- THE TIED CARD OF 'pentaglotlaw02.FeatureTexts'. -/
def featureTextsCard : Claim7 := { stood := { row := featureTextsRow, standIns := [], harness := (true, "472a781a95ab26b21d6fc4a79c0acb2e1378857a98369c4ef2509a8b60bde21e"), looks := false }, kinds := [], alts := [], laidByText := true, laidKinds := [.data, .pinned], laidTests := true, laidLooks := .later }
def FeatureTextsCardSaid : Prop := Claim7.holds Tryd.pinned (.plain (OpenSpec.ofChange featureTextsSpec)) featureTextsCard

/-- THE SECOND FORM's CARD OF 'pentaglotlaw02.FeatureTexts'. -/
def featureTextsUptoCard : Claim7 := { stood := { row := featureTextsUptoRow, standIns := [], harness := (true, "472a781a95ab26b21d6fc4a79c0acb2e1378857a98369c4ef2509a8b60bde21e"), looks := false }, kinds := [], alts := [], laidByText := true, laidKinds := [.data, .pinned], laidTests := true, laidLooks := .later }
def FeatureTextsUptoCardSaid : Prop := Claim7.holds Tryd.pinned (.plain (OpenSpec.upto featureTextsSpec)) featureTextsUptoCard
end Rows
end Go.Proofs.YtgdmpkccibfbpaaDoor
