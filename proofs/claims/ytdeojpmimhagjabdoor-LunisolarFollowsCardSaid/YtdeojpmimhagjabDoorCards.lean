/-
  DERIVED. GIVEN WITH THE SEED: THE CARDS: each row of YtdeojpmimhagjabDoorRows.lean that lists a variable, with what it lists TIED to the program's text (the seventh form; the later family's looks); each row that meets fmt, with fmt's text TOLD by the authors' own Lean function (tested against real Go, not proved from fmt's source: count such statements apart). THE CARD IS WHAT COUNTS. Prove the row's statement (the work); the ties are given (YtdeojpmimhagjabDoorTie.lean); close each card by the builder's one call (the guide's Derived/Test/ToyasCard.lean, 'card_holds'). Laid BY PROGRAM, IN A SANDBOX (cutbox-door.mjs). By AI agents, Wed Nov 11 2026. No macro, syntax, notation, axiom, sorry.
-/
import Derived.Test.YtdeojpmimhagjabDoorRows
import GoSem.ClaimSeven
namespace Go.Proofs.YtdeojpmimhagjabDoor
namespace Rows

/-- THE TIED CARD OF 'pentaglotlaw18.LunisolarLeaps'. -/
def lunisolarLeapsCard : Claim7 := { stood := { row := lunisolarLeapsRow, standIns := [], harness := (true, "3926959266175058c07adf8c4e91dd94b43585948559ea7279f93c73ab5a3f34"), looks := false }, kinds := [], alts := [], laidByText := true, laidKinds := [.data], laidTests := true, laidLooks := .later }
def LunisolarLeapsCardSaid : Prop := Claim7.holds Tryd.pinned (.plain (OpenSpec.ofChange lunisolarLeapsSpec)) lunisolarLeapsCard

/-- THE TIED CARD OF 'pentaglotlaw18.LunisolarYears'. -/
def lunisolarYearsCard : Claim7 := { stood := { row := lunisolarYearsRow, standIns := [], harness := (true, "3926959266175058c07adf8c4e91dd94b43585948559ea7279f93c73ab5a3f34"), looks := false }, kinds := [], alts := [], laidByText := true, laidKinds := [.data], laidTests := true, laidLooks := .later }
def LunisolarYearsCardSaid : Prop := Claim7.holds Tryd.pinned (.plain (OpenSpec.ofChange lunisolarYearsSpec)) lunisolarYearsCard

/-- THE TIED CARD OF 'pentaglotlaw18.LunisolarMonths'. -/
def lunisolarMonthsCard : Claim7 := { stood := { row := lunisolarMonthsRow, standIns := [], harness := (true, "3926959266175058c07adf8c4e91dd94b43585948559ea7279f93c73ab5a3f34"), looks := false }, kinds := [], alts := [], laidByText := true, laidKinds := [.data], laidTests := true, laidLooks := .later }
def LunisolarMonthsCardSaid : Prop := Claim7.holds Tryd.pinned (.plain (OpenSpec.ofChange lunisolarMonthsSpec)) lunisolarMonthsCard

/-- THE TIED CARD OF 'pentaglotlaw18.LunisolarMonthDays'. -/
def lunisolarMonthDaysCard : Claim7 := { stood := { row := lunisolarMonthDaysRow, standIns := [], harness := (true, "3926959266175058c07adf8c4e91dd94b43585948559ea7279f93c73ab5a3f34"), looks := false }, kinds := [], alts := [], laidByText := true, laidKinds := [.data], laidTests := true, laidLooks := .later }
def LunisolarMonthDaysCardSaid : Prop := Claim7.holds Tryd.pinned (.plain (OpenSpec.ofChange lunisolarMonthDaysSpec)) lunisolarMonthDaysCard

/-- THE TIED CARD OF 'pentaglotlaw18.LunisolarDates'. -/
def lunisolarDatesCard : Claim7 := { stood := { row := lunisolarDatesRow, standIns := [], harness := (true, "3926959266175058c07adf8c4e91dd94b43585948559ea7279f93c73ab5a3f34"), looks := false }, kinds := [], alts := [], laidByText := true, laidKinds := [.data], laidTests := true, laidLooks := .later }
def LunisolarDatesCardSaid : Prop := Claim7.holds Tryd.pinned (.plain (OpenSpec.ofChange lunisolarDatesSpec)) lunisolarDatesCard

/-- THE TIED CARD OF 'pentaglotlaw18.LunisolarDays'. -/
def lunisolarDaysCard : Claim7 := { stood := { row := lunisolarDaysRow, standIns := [], harness := (true, "3926959266175058c07adf8c4e91dd94b43585948559ea7279f93c73ab5a3f34"), looks := false }, kinds := [], alts := [], laidByText := true, laidKinds := [.data], laidTests := true, laidLooks := .later }
def LunisolarDaysCardSaid : Prop := Claim7.holds Tryd.pinned (.plain (OpenSpec.ofChange lunisolarDaysSpec)) lunisolarDaysCard

/-- THE TIED CARD OF 'pentaglotlaw18.LunisolarInverts'. -/
def lunisolarInvertsCard : Claim7 := { stood := { row := lunisolarInvertsRow, standIns := [], harness := (true, "3926959266175058c07adf8c4e91dd94b43585948559ea7279f93c73ab5a3f34"), looks := false }, kinds := [], alts := [], laidByText := true, laidKinds := [.data], laidTests := true, laidLooks := .later }
def LunisolarInvertsCardSaid : Prop := Claim7.holds Tryd.pinned (.plain (OpenSpec.ofChange lunisolarInvertsSpec)) lunisolarInvertsCard

/-- THE TIED CARD OF 'pentaglotlaw18.LunisolarFollows'. -/
def lunisolarFollowsCard : Claim7 := { stood := { row := lunisolarFollowsRow, standIns := [], harness := (true, "3926959266175058c07adf8c4e91dd94b43585948559ea7279f93c73ab5a3f34"), looks := false }, kinds := [], alts := [], laidByText := true, laidKinds := [.data], laidTests := true, laidLooks := .later }
def LunisolarFollowsCardSaid : Prop := Claim7.holds Tryd.pinned (.plain (OpenSpec.ofChange lunisolarFollowsSpec)) lunisolarFollowsCard

/-- THE TIED CARD OF 'pentaglotlaw18.LunisolarCompares'. -/
def lunisolarComparesCard : Claim7 := { stood := { row := lunisolarComparesRow, standIns := [], harness := (true, "3926959266175058c07adf8c4e91dd94b43585948559ea7279f93c73ab5a3f34"), looks := false }, kinds := [], alts := [], laidByText := true, laidKinds := [.data], laidTests := true, laidLooks := .later }
def LunisolarComparesCardSaid : Prop := Claim7.holds Tryd.pinned (.plain (OpenSpec.ofChange lunisolarComparesSpec)) lunisolarComparesCard

/-- THE TIED CARD OF 'pentaglotlaw18.LunisolarRepeats'. -/
def lunisolarRepeatsCard : Claim7 := { stood := { row := lunisolarRepeatsRow, standIns := [], harness := (true, "3926959266175058c07adf8c4e91dd94b43585948559ea7279f93c73ab5a3f34"), looks := false }, kinds := [], alts := [], laidByText := true, laidKinds := [.data], laidTests := true, laidLooks := .later }
def LunisolarRepeatsCardSaid : Prop := Claim7.holds Tryd.pinned (.plain (OpenSpec.ofChange lunisolarRepeatsSpec)) lunisolarRepeatsCard

/-- THE SECOND FORM's CARD OF 'pentaglotlaw18.LunisolarLeaps'. -/
def lunisolarLeapsUptoCard : Claim7 := { stood := { row := lunisolarLeapsUptoRow, standIns := [], harness := (true, "3926959266175058c07adf8c4e91dd94b43585948559ea7279f93c73ab5a3f34"), looks := false }, kinds := [], alts := [], laidByText := true, laidKinds := [.data], laidTests := true, laidLooks := .later }
def LunisolarLeapsUptoCardSaid : Prop := Claim7.holds Tryd.pinned (.plain (OpenSpec.upto lunisolarLeapsSpec)) lunisolarLeapsUptoCard

/-- THE SECOND FORM's CARD OF 'pentaglotlaw18.LunisolarYears'. -/
def lunisolarYearsUptoCard : Claim7 := { stood := { row := lunisolarYearsUptoRow, standIns := [], harness := (true, "3926959266175058c07adf8c4e91dd94b43585948559ea7279f93c73ab5a3f34"), looks := false }, kinds := [], alts := [], laidByText := true, laidKinds := [.data], laidTests := true, laidLooks := .later }
def LunisolarYearsUptoCardSaid : Prop := Claim7.holds Tryd.pinned (.plain (OpenSpec.upto lunisolarYearsSpec)) lunisolarYearsUptoCard

/-- THE SECOND FORM's CARD OF 'pentaglotlaw18.LunisolarMonths'. -/
def lunisolarMonthsUptoCard : Claim7 := { stood := { row := lunisolarMonthsUptoRow, standIns := [], harness := (true, "3926959266175058c07adf8c4e91dd94b43585948559ea7279f93c73ab5a3f34"), looks := false }, kinds := [], alts := [], laidByText := true, laidKinds := [.data], laidTests := true, laidLooks := .later }
def LunisolarMonthsUptoCardSaid : Prop := Claim7.holds Tryd.pinned (.plain (OpenSpec.upto lunisolarMonthsSpec)) lunisolarMonthsUptoCard

/-- THE SECOND FORM's CARD OF 'pentaglotlaw18.LunisolarMonthDays'. -/
def lunisolarMonthDaysUptoCard : Claim7 := { stood := { row := lunisolarMonthDaysUptoRow, standIns := [], harness := (true, "3926959266175058c07adf8c4e91dd94b43585948559ea7279f93c73ab5a3f34"), looks := false }, kinds := [], alts := [], laidByText := true, laidKinds := [.data], laidTests := true, laidLooks := .later }
def LunisolarMonthDaysUptoCardSaid : Prop := Claim7.holds Tryd.pinned (.plain (OpenSpec.upto lunisolarMonthDaysSpec)) lunisolarMonthDaysUptoCard

/-- THE SECOND FORM's CARD OF 'pentaglotlaw18.LunisolarDates'. -/
def lunisolarDatesUptoCard : Claim7 := { stood := { row := lunisolarDatesUptoRow, standIns := [], harness := (true, "3926959266175058c07adf8c4e91dd94b43585948559ea7279f93c73ab5a3f34"), looks := false }, kinds := [], alts := [], laidByText := true, laidKinds := [.data], laidTests := true, laidLooks := .later }
def LunisolarDatesUptoCardSaid : Prop := Claim7.holds Tryd.pinned (.plain (OpenSpec.upto lunisolarDatesSpec)) lunisolarDatesUptoCard

/-- THE SECOND FORM's CARD OF 'pentaglotlaw18.LunisolarDays'. -/
def lunisolarDaysUptoCard : Claim7 := { stood := { row := lunisolarDaysUptoRow, standIns := [], harness := (true, "3926959266175058c07adf8c4e91dd94b43585948559ea7279f93c73ab5a3f34"), looks := false }, kinds := [], alts := [], laidByText := true, laidKinds := [.data], laidTests := true, laidLooks := .later }
def LunisolarDaysUptoCardSaid : Prop := Claim7.holds Tryd.pinned (.plain (OpenSpec.upto lunisolarDaysSpec)) lunisolarDaysUptoCard

/-- THE SECOND FORM's CARD OF 'pentaglotlaw18.LunisolarInverts'. -/
def lunisolarInvertsUptoCard : Claim7 := { stood := { row := lunisolarInvertsUptoRow, standIns := [], harness := (true, "3926959266175058c07adf8c4e91dd94b43585948559ea7279f93c73ab5a3f34"), looks := false }, kinds := [], alts := [], laidByText := true, laidKinds := [.data], laidTests := true, laidLooks := .later }
def LunisolarInvertsUptoCardSaid : Prop := Claim7.holds Tryd.pinned (.plain (OpenSpec.upto lunisolarInvertsSpec)) lunisolarInvertsUptoCard

/-- THE SECOND FORM's CARD OF 'pentaglotlaw18.LunisolarFollows'. -/
def lunisolarFollowsUptoCard : Claim7 := { stood := { row := lunisolarFollowsUptoRow, standIns := [], harness := (true, "3926959266175058c07adf8c4e91dd94b43585948559ea7279f93c73ab5a3f34"), looks := false }, kinds := [], alts := [], laidByText := true, laidKinds := [.data], laidTests := true, laidLooks := .later }
def LunisolarFollowsUptoCardSaid : Prop := Claim7.holds Tryd.pinned (.plain (OpenSpec.upto lunisolarFollowsSpec)) lunisolarFollowsUptoCard

/-- THE SECOND FORM's CARD OF 'pentaglotlaw18.LunisolarCompares'. -/
def lunisolarComparesUptoCard : Claim7 := { stood := { row := lunisolarComparesUptoRow, standIns := [], harness := (true, "3926959266175058c07adf8c4e91dd94b43585948559ea7279f93c73ab5a3f34"), looks := false }, kinds := [], alts := [], laidByText := true, laidKinds := [.data], laidTests := true, laidLooks := .later }
def LunisolarComparesUptoCardSaid : Prop := Claim7.holds Tryd.pinned (.plain (OpenSpec.upto lunisolarComparesSpec)) lunisolarComparesUptoCard

/-- THE SECOND FORM's CARD OF 'pentaglotlaw18.LunisolarRepeats'. -/
def lunisolarRepeatsUptoCard : Claim7 := { stood := { row := lunisolarRepeatsUptoRow, standIns := [], harness := (true, "3926959266175058c07adf8c4e91dd94b43585948559ea7279f93c73ab5a3f34"), looks := false }, kinds := [], alts := [], laidByText := true, laidKinds := [.data], laidTests := true, laidLooks := .later }
def LunisolarRepeatsUptoCardSaid : Prop := Claim7.holds Tryd.pinned (.plain (OpenSpec.upto lunisolarRepeatsSpec)) lunisolarRepeatsUptoCard
end Rows
end Go.Proofs.YtdeojpmimhagjabDoor
