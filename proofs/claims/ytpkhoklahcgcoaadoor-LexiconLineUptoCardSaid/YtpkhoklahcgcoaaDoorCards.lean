/-
  DERIVED. GIVEN WITH THE SEED: THE CARDS: each row of YtpkhoklahcgcoaaDoorRows.lean that lists a variable, with what it lists TIED to the program's text (the seventh form; the later family's looks); each row that meets fmt, with fmt's text TOLD by the authors' own Lean function (tested against real Go, not proved from fmt's source: count such statements apart). THE CARD IS WHAT COUNTS. Prove the row's statement (the work); the ties are given (YtpkhoklahcgcoaaDoorTie.lean); close each card by the builder's one call (the guide's Derived/Test/ToyasCard.lean, 'card_holds'). Laid BY PROGRAM, IN A SANDBOX (cutbox-door.mjs). By AI agents, Wed Nov 11 2026. No macro, syntax, notation, axiom, sorry.
-/
import Derived.Test.YtpkhoklahcgcoaaDoorRows
import GoSem.ClaimSeven
namespace Go.Proofs.YtpkhoklahcgcoaaDoor
namespace Rows

/-- THE TIED CARD OF 'pentaglotlaw09.LexiconLine'. -/
def lexiconLineCard : Claim7 := { stood := { row := lexiconLineRow, standIns := [], harness := (true, "8146de0ccd7b5584fc50103751121b705f44dfb2763afdacee7bb683e5dc1bae"), looks := false }, kinds := [], alts := [], laidByText := true, laidKinds := [.data, .pinned], laidTests := true, laidLooks := .later }
def LexiconLineCardSaid : Prop := Claim7.holds Tryd.pinned (.plain (OpenSpec.ofChange lexiconLineSpec)) lexiconLineCard

/-- THE TIED CARD OF 'pentaglotlaw09.LexiconParse'. -/
def lexiconParseCard : Claim7 := { stood := { row := lexiconParseRow, standIns := [], harness := (true, "8146de0ccd7b5584fc50103751121b705f44dfb2763afdacee7bb683e5dc1bae"), looks := false }, kinds := [], alts := [], laidByText := true, laidKinds := [.data, .pinned], laidTests := true, laidLooks := .later }
def LexiconParseCardSaid : Prop := Claim7.holds Tryd.pinned (.plain (OpenSpec.ofChange lexiconParseSpec)) lexiconParseCard

/-- THE TIED CARD OF 'pentaglotlaw09.LexiconInverts'. -/
def lexiconInvertsCard : Claim7 := { stood := { row := lexiconInvertsRow, standIns := [], harness := (true, "8146de0ccd7b5584fc50103751121b705f44dfb2763afdacee7bb683e5dc1bae"), looks := false }, kinds := [], alts := [], laidByText := true, laidKinds := [.data, .pinned], laidTests := true, laidLooks := .later }
def LexiconInvertsCardSaid : Prop := Claim7.holds Tryd.pinned (.plain (OpenSpec.ofChange lexiconInvertsSpec)) lexiconInvertsCard

/-- THE SECOND FORM's CARD OF 'pentaglotlaw09.LexiconLine'. -/
def lexiconLineUptoCard : Claim7 := { stood := { row := lexiconLineUptoRow, standIns := [], harness := (true, "8146de0ccd7b5584fc50103751121b705f44dfb2763afdacee7bb683e5dc1bae"), looks := false }, kinds := [], alts := [], laidByText := true, laidKinds := [.data, .pinned], laidTests := true, laidLooks := .later }
def LexiconLineUptoCardSaid : Prop := Claim7.holds Tryd.pinned (.plain (OpenSpec.upto lexiconLineSpec)) lexiconLineUptoCard

/-- THE SECOND FORM's CARD OF 'pentaglotlaw09.LexiconParse'. -/
def lexiconParseUptoCard : Claim7 := { stood := { row := lexiconParseUptoRow, standIns := [], harness := (true, "8146de0ccd7b5584fc50103751121b705f44dfb2763afdacee7bb683e5dc1bae"), looks := false }, kinds := [], alts := [], laidByText := true, laidKinds := [.data, .pinned], laidTests := true, laidLooks := .later }
def LexiconParseUptoCardSaid : Prop := Claim7.holds Tryd.pinned (.plain (OpenSpec.upto lexiconParseSpec)) lexiconParseUptoCard

/-- THE SECOND FORM's CARD OF 'pentaglotlaw09.LexiconInverts'. -/
def lexiconInvertsUptoCard : Claim7 := { stood := { row := lexiconInvertsUptoRow, standIns := [], harness := (true, "8146de0ccd7b5584fc50103751121b705f44dfb2763afdacee7bb683e5dc1bae"), looks := false }, kinds := [], alts := [], laidByText := true, laidKinds := [.data, .pinned], laidTests := true, laidLooks := .later }
def LexiconInvertsUptoCardSaid : Prop := Claim7.holds Tryd.pinned (.plain (OpenSpec.upto lexiconInvertsSpec)) lexiconInvertsUptoCard
end Rows
end Go.Proofs.YtpkhoklahcgcoaaDoor
