/-
  DERIVED. GIVEN WITH THE SEED: THE CARDS: each row of YtdeojpmimhagjaaDoorRows.lean that lists a variable, with what it lists TIED to the program's text (the seventh form; the later family's looks); each row that meets fmt, with fmt's text TOLD by the authors' own Lean function (tested against real Go, not proved from fmt's source: count such statements apart). THE CARD IS WHAT COUNTS. Prove the row's statement (the work); the ties are given (YtdeojpmimhagjaaDoorTie.lean); close each card by the builder's one call (the guide's Derived/Test/ToyasCard.lean, 'card_holds'). Laid BY PROGRAM, IN A SANDBOX (cutbox-door.mjs). By AI agents, Wed Nov 11 2026. No macro, syntax, notation, axiom, sorry.
-/
import Derived.Test.YtdeojpmimhagjaaDoorRows
import GoSem.ClaimSeven
namespace Go.Proofs.YtdeojpmimhagjaaDoor
namespace Rows

/-- THE TIED CARD OF 'pentaglotlaw17.CalendarMonths'. -/
def calendarMonthsCard : Claim7 := { stood := { row := calendarMonthsRow, standIns := [], harness := (true, "18c744e75d75b77a6ae3e392da3d4c0a39f0f6350004766146af3ecdd5201028"), looks := false }, kinds := [], alts := [], laidByText := true, laidKinds := [.data], laidTests := true, laidLooks := .later }
def CalendarMonthsCardSaid : Prop := Claim7.holds Tryd.pinned (.plain (OpenSpec.ofChange calendarMonthsSpec)) calendarMonthsCard

/-- THE TIED CARD OF 'pentaglotlaw17.CalendarYears'. -/
def calendarYearsCard : Claim7 := { stood := { row := calendarYearsRow, standIns := [], harness := (true, "18c744e75d75b77a6ae3e392da3d4c0a39f0f6350004766146af3ecdd5201028"), looks := false }, kinds := [], alts := [], laidByText := true, laidKinds := [.data], laidTests := true, laidLooks := .later }
def CalendarYearsCardSaid : Prop := Claim7.holds Tryd.pinned (.plain (OpenSpec.ofChange calendarYearsSpec)) calendarYearsCard

/-- THE TIED CARD OF 'pentaglotlaw17.CalendarLeaps'. -/
def calendarLeapsCard : Claim7 := { stood := { row := calendarLeapsRow, standIns := [], harness := (true, "18c744e75d75b77a6ae3e392da3d4c0a39f0f6350004766146af3ecdd5201028"), looks := false }, kinds := [], alts := [], laidByText := true, laidKinds := [.data], laidTests := true, laidLooks := .later }
def CalendarLeapsCardSaid : Prop := Claim7.holds Tryd.pinned (.plain (OpenSpec.ofChange calendarLeapsSpec)) calendarLeapsCard

/-- THE TIED CARD OF 'pentaglotlaw17.CalendarStart'. -/
def calendarStartCard : Claim7 := { stood := { row := calendarStartRow, standIns := [], harness := (true, "18c744e75d75b77a6ae3e392da3d4c0a39f0f6350004766146af3ecdd5201028"), looks := false }, kinds := [], alts := [], laidByText := true, laidKinds := [.data], laidTests := true, laidLooks := .later }
def CalendarStartCardSaid : Prop := Claim7.holds Tryd.pinned (.plain (OpenSpec.ofChange calendarStartSpec)) calendarStartCard

/-- THE TIED CARD OF 'pentaglotlaw17.CalendarSolar'. -/
def calendarSolarCard : Claim7 := { stood := { row := calendarSolarRow, standIns := [], harness := (true, "18c744e75d75b77a6ae3e392da3d4c0a39f0f6350004766146af3ecdd5201028"), looks := false }, kinds := [], alts := [], laidByText := true, laidKinds := [.data], laidTests := true, laidLooks := .later }
def CalendarSolarCardSaid : Prop := Claim7.holds Tryd.pinned (.plain (OpenSpec.ofChange calendarSolarSpec)) calendarSolarCard

/-- THE TIED CARD OF 'pentaglotlaw17.CalendarDay'. -/
def calendarDayCard : Claim7 := { stood := { row := calendarDayRow, standIns := [], harness := (true, "18c744e75d75b77a6ae3e392da3d4c0a39f0f6350004766146af3ecdd5201028"), looks := false }, kinds := [], alts := [], laidByText := true, laidKinds := [.data], laidTests := true, laidLooks := .later }
def CalendarDayCardSaid : Prop := Claim7.holds Tryd.pinned (.plain (OpenSpec.ofChange calendarDaySpec)) calendarDayCard

/-- THE TIED CARD OF 'pentaglotlaw17.CalendarInverts'. -/
def calendarInvertsCard : Claim7 := { stood := { row := calendarInvertsRow, standIns := [], harness := (true, "18c744e75d75b77a6ae3e392da3d4c0a39f0f6350004766146af3ecdd5201028"), looks := false }, kinds := [], alts := [], laidByText := true, laidKinds := [.data], laidTests := true, laidLooks := .later }
def CalendarInvertsCardSaid : Prop := Claim7.holds Tryd.pinned (.plain (OpenSpec.ofChange calendarInvertsSpec)) calendarInvertsCard

/-- THE TIED CARD OF 'pentaglotlaw17.CalendarNext'. -/
def calendarNextCard : Claim7 := { stood := { row := calendarNextRow, standIns := [], harness := (true, "18c744e75d75b77a6ae3e392da3d4c0a39f0f6350004766146af3ecdd5201028"), looks := false }, kinds := [], alts := [], laidByText := true, laidKinds := [.data], laidTests := true, laidLooks := .later }
def CalendarNextCardSaid : Prop := Claim7.holds Tryd.pinned (.plain (OpenSpec.ofChange calendarNextSpec)) calendarNextCard

/-- THE TIED CARD OF 'pentaglotlaw17.CalendarCycle'. -/
def calendarCycleCard : Claim7 := { stood := { row := calendarCycleRow, standIns := [], harness := (true, "18c744e75d75b77a6ae3e392da3d4c0a39f0f6350004766146af3ecdd5201028"), looks := false }, kinds := [], alts := [], laidByText := true, laidKinds := [.data], laidTests := true, laidLooks := .later }
def CalendarCycleCardSaid : Prop := Claim7.holds Tryd.pinned (.plain (OpenSpec.ofChange calendarCycleSpec)) calendarCycleCard

/-- THE TIED CARD OF 'pentaglotlaw17.CalendarRound'. -/
def calendarRoundCard : Claim7 := { stood := { row := calendarRoundRow, standIns := [], harness := (true, "18c744e75d75b77a6ae3e392da3d4c0a39f0f6350004766146af3ecdd5201028"), looks := false }, kinds := [], alts := [], laidByText := true, laidKinds := [.data], laidTests := true, laidLooks := .later }
def CalendarRoundCardSaid : Prop := Claim7.holds Tryd.pinned (.plain (OpenSpec.ofChange calendarRoundSpec)) calendarRoundCard

/-- THE TIED CARD OF 'pentaglotlaw17.CalendarTurns'. -/
def calendarTurnsCard : Claim7 := { stood := { row := calendarTurnsRow, standIns := [], harness := (true, "18c744e75d75b77a6ae3e392da3d4c0a39f0f6350004766146af3ecdd5201028"), looks := false }, kinds := [], alts := [], laidByText := true, laidKinds := [.data], laidTests := true, laidLooks := .later }
def CalendarTurnsCardSaid : Prop := Claim7.holds Tryd.pinned (.plain (OpenSpec.ofChange calendarTurnsSpec)) calendarTurnsCard

/-- THE TIED CARD OF 'pentaglotlaw17.CalendarSearch'. -/
def calendarSearchCard : Claim7 := { stood := { row := calendarSearchRow, standIns := [], harness := (true, "18c744e75d75b77a6ae3e392da3d4c0a39f0f6350004766146af3ecdd5201028"), looks := false }, kinds := [], alts := [], laidByText := true, laidKinds := [.data], laidTests := true, laidLooks := .later }
def CalendarSearchCardSaid : Prop := Claim7.holds Tryd.pinned (.plain (OpenSpec.ofChange calendarSearchSpec)) calendarSearchCard

/-- THE TIED CARD OF 'pentaglotlaw17.CalendarFirst'. -/
def calendarFirstCard : Claim7 := { stood := { row := calendarFirstRow, standIns := [], harness := (true, "18c744e75d75b77a6ae3e392da3d4c0a39f0f6350004766146af3ecdd5201028"), looks := false }, kinds := [], alts := [], laidByText := true, laidKinds := [.data], laidTests := true, laidLooks := .later }
def CalendarFirstCardSaid : Prop := Claim7.holds Tryd.pinned (.plain (OpenSpec.ofChange calendarFirstSpec)) calendarFirstCard

/-- THE TIED CARD OF 'pentaglotlaw17.CalendarWeek'. -/
def calendarWeekCard : Claim7 := { stood := { row := calendarWeekRow, standIns := [], harness := (true, "18c744e75d75b77a6ae3e392da3d4c0a39f0f6350004766146af3ecdd5201028"), looks := false }, kinds := [], alts := [], laidByText := true, laidKinds := [.data], laidTests := true, laidLooks := .later }
def CalendarWeekCardSaid : Prop := Claim7.holds Tryd.pinned (.plain (OpenSpec.ofChange calendarWeekSpec)) calendarWeekCard

/-- THE SECOND FORM's CARD OF 'pentaglotlaw17.CalendarMonths'. -/
def calendarMonthsUptoCard : Claim7 := { stood := { row := calendarMonthsUptoRow, standIns := [], harness := (true, "18c744e75d75b77a6ae3e392da3d4c0a39f0f6350004766146af3ecdd5201028"), looks := false }, kinds := [], alts := [], laidByText := true, laidKinds := [.data], laidTests := true, laidLooks := .later }
def CalendarMonthsUptoCardSaid : Prop := Claim7.holds Tryd.pinned (.plain (OpenSpec.upto calendarMonthsSpec)) calendarMonthsUptoCard

/-- THE SECOND FORM's CARD OF 'pentaglotlaw17.CalendarYears'. -/
def calendarYearsUptoCard : Claim7 := { stood := { row := calendarYearsUptoRow, standIns := [], harness := (true, "18c744e75d75b77a6ae3e392da3d4c0a39f0f6350004766146af3ecdd5201028"), looks := false }, kinds := [], alts := [], laidByText := true, laidKinds := [.data], laidTests := true, laidLooks := .later }
def CalendarYearsUptoCardSaid : Prop := Claim7.holds Tryd.pinned (.plain (OpenSpec.upto calendarYearsSpec)) calendarYearsUptoCard

/-- THE SECOND FORM's CARD OF 'pentaglotlaw17.CalendarLeaps'. -/
def calendarLeapsUptoCard : Claim7 := { stood := { row := calendarLeapsUptoRow, standIns := [], harness := (true, "18c744e75d75b77a6ae3e392da3d4c0a39f0f6350004766146af3ecdd5201028"), looks := false }, kinds := [], alts := [], laidByText := true, laidKinds := [.data], laidTests := true, laidLooks := .later }
def CalendarLeapsUptoCardSaid : Prop := Claim7.holds Tryd.pinned (.plain (OpenSpec.upto calendarLeapsSpec)) calendarLeapsUptoCard

/-- THE SECOND FORM's CARD OF 'pentaglotlaw17.CalendarStart'. -/
def calendarStartUptoCard : Claim7 := { stood := { row := calendarStartUptoRow, standIns := [], harness := (true, "18c744e75d75b77a6ae3e392da3d4c0a39f0f6350004766146af3ecdd5201028"), looks := false }, kinds := [], alts := [], laidByText := true, laidKinds := [.data], laidTests := true, laidLooks := .later }
def CalendarStartUptoCardSaid : Prop := Claim7.holds Tryd.pinned (.plain (OpenSpec.upto calendarStartSpec)) calendarStartUptoCard

/-- THE SECOND FORM's CARD OF 'pentaglotlaw17.CalendarSolar'. -/
def calendarSolarUptoCard : Claim7 := { stood := { row := calendarSolarUptoRow, standIns := [], harness := (true, "18c744e75d75b77a6ae3e392da3d4c0a39f0f6350004766146af3ecdd5201028"), looks := false }, kinds := [], alts := [], laidByText := true, laidKinds := [.data], laidTests := true, laidLooks := .later }
def CalendarSolarUptoCardSaid : Prop := Claim7.holds Tryd.pinned (.plain (OpenSpec.upto calendarSolarSpec)) calendarSolarUptoCard

/-- THE SECOND FORM's CARD OF 'pentaglotlaw17.CalendarDay'. -/
def calendarDayUptoCard : Claim7 := { stood := { row := calendarDayUptoRow, standIns := [], harness := (true, "18c744e75d75b77a6ae3e392da3d4c0a39f0f6350004766146af3ecdd5201028"), looks := false }, kinds := [], alts := [], laidByText := true, laidKinds := [.data], laidTests := true, laidLooks := .later }
def CalendarDayUptoCardSaid : Prop := Claim7.holds Tryd.pinned (.plain (OpenSpec.upto calendarDaySpec)) calendarDayUptoCard

/-- THE SECOND FORM's CARD OF 'pentaglotlaw17.CalendarInverts'. -/
def calendarInvertsUptoCard : Claim7 := { stood := { row := calendarInvertsUptoRow, standIns := [], harness := (true, "18c744e75d75b77a6ae3e392da3d4c0a39f0f6350004766146af3ecdd5201028"), looks := false }, kinds := [], alts := [], laidByText := true, laidKinds := [.data], laidTests := true, laidLooks := .later }
def CalendarInvertsUptoCardSaid : Prop := Claim7.holds Tryd.pinned (.plain (OpenSpec.upto calendarInvertsSpec)) calendarInvertsUptoCard

/-- THE SECOND FORM's CARD OF 'pentaglotlaw17.CalendarNext'. -/
def calendarNextUptoCard : Claim7 := { stood := { row := calendarNextUptoRow, standIns := [], harness := (true, "18c744e75d75b77a6ae3e392da3d4c0a39f0f6350004766146af3ecdd5201028"), looks := false }, kinds := [], alts := [], laidByText := true, laidKinds := [.data], laidTests := true, laidLooks := .later }
def CalendarNextUptoCardSaid : Prop := Claim7.holds Tryd.pinned (.plain (OpenSpec.upto calendarNextSpec)) calendarNextUptoCard

/-- THE SECOND FORM's CARD OF 'pentaglotlaw17.CalendarCycle'. -/
def calendarCycleUptoCard : Claim7 := { stood := { row := calendarCycleUptoRow, standIns := [], harness := (true, "18c744e75d75b77a6ae3e392da3d4c0a39f0f6350004766146af3ecdd5201028"), looks := false }, kinds := [], alts := [], laidByText := true, laidKinds := [.data], laidTests := true, laidLooks := .later }
def CalendarCycleUptoCardSaid : Prop := Claim7.holds Tryd.pinned (.plain (OpenSpec.upto calendarCycleSpec)) calendarCycleUptoCard

/-- THE SECOND FORM's CARD OF 'pentaglotlaw17.CalendarRound'. -/
def calendarRoundUptoCard : Claim7 := { stood := { row := calendarRoundUptoRow, standIns := [], harness := (true, "18c744e75d75b77a6ae3e392da3d4c0a39f0f6350004766146af3ecdd5201028"), looks := false }, kinds := [], alts := [], laidByText := true, laidKinds := [.data], laidTests := true, laidLooks := .later }
def CalendarRoundUptoCardSaid : Prop := Claim7.holds Tryd.pinned (.plain (OpenSpec.upto calendarRoundSpec)) calendarRoundUptoCard

/-- THE SECOND FORM's CARD OF 'pentaglotlaw17.CalendarTurns'. -/
def calendarTurnsUptoCard : Claim7 := { stood := { row := calendarTurnsUptoRow, standIns := [], harness := (true, "18c744e75d75b77a6ae3e392da3d4c0a39f0f6350004766146af3ecdd5201028"), looks := false }, kinds := [], alts := [], laidByText := true, laidKinds := [.data], laidTests := true, laidLooks := .later }
def CalendarTurnsUptoCardSaid : Prop := Claim7.holds Tryd.pinned (.plain (OpenSpec.upto calendarTurnsSpec)) calendarTurnsUptoCard

/-- THE SECOND FORM's CARD OF 'pentaglotlaw17.CalendarSearch'. -/
def calendarSearchUptoCard : Claim7 := { stood := { row := calendarSearchUptoRow, standIns := [], harness := (true, "18c744e75d75b77a6ae3e392da3d4c0a39f0f6350004766146af3ecdd5201028"), looks := false }, kinds := [], alts := [], laidByText := true, laidKinds := [.data], laidTests := true, laidLooks := .later }
def CalendarSearchUptoCardSaid : Prop := Claim7.holds Tryd.pinned (.plain (OpenSpec.upto calendarSearchSpec)) calendarSearchUptoCard

/-- THE SECOND FORM's CARD OF 'pentaglotlaw17.CalendarFirst'. -/
def calendarFirstUptoCard : Claim7 := { stood := { row := calendarFirstUptoRow, standIns := [], harness := (true, "18c744e75d75b77a6ae3e392da3d4c0a39f0f6350004766146af3ecdd5201028"), looks := false }, kinds := [], alts := [], laidByText := true, laidKinds := [.data], laidTests := true, laidLooks := .later }
def CalendarFirstUptoCardSaid : Prop := Claim7.holds Tryd.pinned (.plain (OpenSpec.upto calendarFirstSpec)) calendarFirstUptoCard

/-- THE SECOND FORM's CARD OF 'pentaglotlaw17.CalendarWeek'. -/
def calendarWeekUptoCard : Claim7 := { stood := { row := calendarWeekUptoRow, standIns := [], harness := (true, "18c744e75d75b77a6ae3e392da3d4c0a39f0f6350004766146af3ecdd5201028"), looks := false }, kinds := [], alts := [], laidByText := true, laidKinds := [.data], laidTests := true, laidLooks := .later }
def CalendarWeekUptoCardSaid : Prop := Claim7.holds Tryd.pinned (.plain (OpenSpec.upto calendarWeekSpec)) calendarWeekUptoCard
end Rows
end Go.Proofs.YtdeojpmimhagjaaDoor
