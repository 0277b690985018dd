/-
  NARROWER THAN 'FOR EVERY INPUT', by the rows' own cells (each row's printed sentence says how): CalendarMonths: laid · CalendarYears: laid · CalendarLeaps: laid · CalendarStart: laid · CalendarSolar: laid · CalendarDay: laid · CalendarInverts: laid · CalendarNext: laid · CalendarCycle: laid · CalendarRound: laid · CalendarTurns: laid · CalendarSearch: laid · CalendarFirst: laid · CalendarWeek: laid.
  DERIVED. THE GIVEN ROWS OF THIS SEAT. 14 by the template 'for every input the law returns true; each argument reads behind the call as it read before'; 0 by the template 'total and deterministic' (their statements: YtdeojpmimhagjaaDoorTotals.lean).
  GIVEN WITH THE SEED: the statements are not yours to turn. If you find one false, say at which input.
  Laid BY PROGRAM, IN A SANDBOX (cutbox-rows.mjs): the forced cells as the released guide's own fill.sh prints them over the translation 0bc512de59f7849e… (all of the seat's roots in one cut). By AI agents, Wed Nov 11 2026. No macro, syntax, notation, axiom, sorry.
-/
import Derived.Test.YtdeojpmimhagjaaDoorChecked
import GoSem.Claim
import GoSem.ClaimJoined
import GoSem.ClaimMapViews
import Derived.JoinedTies
import Derived.KernelRfl
namespace Go.Proofs.YtdeojpmimhagjaaDoor
/- THE CELL 'sum', in the pinned program and in every row, IS THE sha256 OF THE DUMP (.gsa) THAT YtdeojpmimhagjaaDoorProg.lean LOADS. Nothing in Lean hashes anything: it is a label: what it is worth is what the hold of that sum in a sandbox is worth. -/
noncomputable def Tryd.pinned : Pinned := { name := "ytdeojpmimhagjaadoor", sum := "0bc512de59f7849ec66bcc4dfba63e62bf756c03a13dc3dda97619089499298d", checked := Tryd.checked }
namespace Rows
def none {H : Type} : Left H := { results := [], args := [] }

/- WHAT THE LISTED PACKAGE-LEVEL VARIABLES READ AS WHEN THE CALL BEGINS. Each datum BY PROGRAM (the guide's laid-datum.mjs) off the statement by which the dump's own 'gosem.cut.vars' lays the variable. In a bare row this is a premise. The card (YtdeojpmimhagjaaDoorCards.lean) ties it to the program's text. -/
def laid_pentaglot_calendar_monthDays {H : Type} : DataW H := .agg [.lit (.int .i64 31), .lit (.int .i64 30), .lit (.int .i64 31), .lit (.int .i64 30), .lit (.int .i64 31), .lit (.int .i64 30), .lit (.int .i64 31), .lit (.int .i64 30), .lit (.int .i64 31), .lit (.int .i64 30), .lit (.int .i64 31), .lit (.int .i64 29)]

/-- 'pentaglotlaw17.CalendarMonths': WHATEVER THE INPUT: true; the input reads as it did. -/
def calendarMonthsSpec : ChangeSpec := { name := "calendarMonths", fn := fun _ => fun
  | [d1, d2] => { results := [.lit (.bool true)], args := [d1, d2] }
  | _ => none }
def calendarMonthsRow : OpenClaim := { program := "ytdeojpmimhagjaadoor", sum := "0bc512de59f7849ec66bcc4dfba63e62bf756c03a13dc3dda97619089499298d", func := "pentaglot/pentaglotlaw17.CalendarMonths", spec := "calendarMonths", named := ["pentaglot/calendar.monthDays"], apart := false, laid := [("pentaglot/calendar.monthDays", laid_pentaglot_calendar_monthDays)] }
def CalendarMonthsSaid : Prop := calendarMonthsRow.holds Tryd.pinned (OpenSpec.ofChange calendarMonthsSpec)

/-- ITS FALSE NEIGHBOUR: 'it returns false'. Refute it at one input. -/
def calendarMonthsWrong : ChangeSpec := { name := "calendarMonths", fn := fun _ => fun
  | [d1, d2] => { results := [.lit (.bool false)], args := [d1, d2] }
  | _ => none }
def CalendarMonthsWrongFalsely : Prop := calendarMonthsRow.holds Tryd.pinned (OpenSpec.ofChange calendarMonthsWrong)

/-- 'pentaglotlaw17.CalendarYears': WHATEVER THE INPUT: true; the input reads as it did. -/
def calendarYearsSpec : ChangeSpec := { name := "calendarYears", fn := fun _ => fun
  | [d] => { results := [.lit (.bool true)], args := [d] }
  | _ => none }
def calendarYearsRow : OpenClaim := { program := "ytdeojpmimhagjaadoor", sum := "0bc512de59f7849ec66bcc4dfba63e62bf756c03a13dc3dda97619089499298d", func := "pentaglot/pentaglotlaw17.CalendarYears", spec := "calendarYears", named := ["pentaglot/calendar.monthDays"], apart := false, laid := [("pentaglot/calendar.monthDays", laid_pentaglot_calendar_monthDays)] }
def CalendarYearsSaid : Prop := calendarYearsRow.holds Tryd.pinned (OpenSpec.ofChange calendarYearsSpec)

/-- ITS FALSE NEIGHBOUR: 'it returns false'. Refute it at one input. -/
def calendarYearsWrong : ChangeSpec := { name := "calendarYears", fn := fun _ => fun
  | [d] => { results := [.lit (.bool false)], args := [d] }
  | _ => none }
def CalendarYearsWrongFalsely : Prop := calendarYearsRow.holds Tryd.pinned (OpenSpec.ofChange calendarYearsWrong)

/-- 'pentaglotlaw17.CalendarLeaps': WHATEVER THE INPUT: true; the input reads as it did. -/
def calendarLeapsSpec : ChangeSpec := { name := "calendarLeaps", fn := fun _ => fun
  | [d] => { results := [.lit (.bool true)], args := [d] }
  | _ => none }
def calendarLeapsRow : OpenClaim := { program := "ytdeojpmimhagjaadoor", sum := "0bc512de59f7849ec66bcc4dfba63e62bf756c03a13dc3dda97619089499298d", func := "pentaglot/pentaglotlaw17.CalendarLeaps", spec := "calendarLeaps", named := ["pentaglot/calendar.monthDays"], apart := false, laid := [("pentaglot/calendar.monthDays", laid_pentaglot_calendar_monthDays)] }
def CalendarLeapsSaid : Prop := calendarLeapsRow.holds Tryd.pinned (OpenSpec.ofChange calendarLeapsSpec)

/-- ITS FALSE NEIGHBOUR: 'it returns false'. Refute it at one input. -/
def calendarLeapsWrong : ChangeSpec := { name := "calendarLeaps", fn := fun _ => fun
  | [d] => { results := [.lit (.bool false)], args := [d] }
  | _ => none }
def CalendarLeapsWrongFalsely : Prop := calendarLeapsRow.holds Tryd.pinned (OpenSpec.ofChange calendarLeapsWrong)

/-- 'pentaglotlaw17.CalendarStart': WHATEVER THE INPUT: true; the input reads as it did. -/
def calendarStartSpec : ChangeSpec := { name := "calendarStart", fn := fun _ => fun
  | [d] => { results := [.lit (.bool true)], args := [d] }
  | _ => none }
def calendarStartRow : OpenClaim := { program := "ytdeojpmimhagjaadoor", sum := "0bc512de59f7849ec66bcc4dfba63e62bf756c03a13dc3dda97619089499298d", func := "pentaglot/pentaglotlaw17.CalendarStart", spec := "calendarStart", named := ["pentaglot/calendar.monthDays"], apart := false, laid := [("pentaglot/calendar.monthDays", laid_pentaglot_calendar_monthDays)] }
def CalendarStartSaid : Prop := calendarStartRow.holds Tryd.pinned (OpenSpec.ofChange calendarStartSpec)

/-- ITS FALSE NEIGHBOUR: 'it returns false'. Refute it at one input. -/
def calendarStartWrong : ChangeSpec := { name := "calendarStart", fn := fun _ => fun
  | [d] => { results := [.lit (.bool false)], args := [d] }
  | _ => none }
def CalendarStartWrongFalsely : Prop := calendarStartRow.holds Tryd.pinned (OpenSpec.ofChange calendarStartWrong)

/-- 'pentaglotlaw17.CalendarSolar': WHATEVER THE INPUT: true; the input reads as it did. -/
def calendarSolarSpec : ChangeSpec := { name := "calendarSolar", fn := fun _ => fun
  | [d] => { results := [.lit (.bool true)], args := [d] }
  | _ => none }
def calendarSolarRow : OpenClaim := { program := "ytdeojpmimhagjaadoor", sum := "0bc512de59f7849ec66bcc4dfba63e62bf756c03a13dc3dda97619089499298d", func := "pentaglot/pentaglotlaw17.CalendarSolar", spec := "calendarSolar", named := ["pentaglot/calendar.monthDays"], apart := false, laid := [("pentaglot/calendar.monthDays", laid_pentaglot_calendar_monthDays)] }
def CalendarSolarSaid : Prop := calendarSolarRow.holds Tryd.pinned (OpenSpec.ofChange calendarSolarSpec)

/-- ITS FALSE NEIGHBOUR: 'it returns false'. Refute it at one input. -/
def calendarSolarWrong : ChangeSpec := { name := "calendarSolar", fn := fun _ => fun
  | [d] => { results := [.lit (.bool false)], args := [d] }
  | _ => none }
def CalendarSolarWrongFalsely : Prop := calendarSolarRow.holds Tryd.pinned (OpenSpec.ofChange calendarSolarWrong)

/-- 'pentaglotlaw17.CalendarDay': WHATEVER THE INPUT: true; the input reads as it did. -/
def calendarDaySpec : ChangeSpec := { name := "calendarDay", fn := fun _ => fun
  | [d] => { results := [.lit (.bool true)], args := [d] }
  | _ => none }
def calendarDayRow : OpenClaim := { program := "ytdeojpmimhagjaadoor", sum := "0bc512de59f7849ec66bcc4dfba63e62bf756c03a13dc3dda97619089499298d", func := "pentaglot/pentaglotlaw17.CalendarDay", spec := "calendarDay", named := ["pentaglot/calendar.monthDays"], apart := false, laid := [("pentaglot/calendar.monthDays", laid_pentaglot_calendar_monthDays)] }
def CalendarDaySaid : Prop := calendarDayRow.holds Tryd.pinned (OpenSpec.ofChange calendarDaySpec)

/-- ITS FALSE NEIGHBOUR: 'it returns false'. Refute it at one input. -/
def calendarDayWrong : ChangeSpec := { name := "calendarDay", fn := fun _ => fun
  | [d] => { results := [.lit (.bool false)], args := [d] }
  | _ => none }
def CalendarDayWrongFalsely : Prop := calendarDayRow.holds Tryd.pinned (OpenSpec.ofChange calendarDayWrong)

/-- 'pentaglotlaw17.CalendarInverts': WHATEVER THE INPUT: true; the input reads as it did. -/
def calendarInvertsSpec : ChangeSpec := { name := "calendarInverts", fn := fun _ => fun
  | [d1, d2] => { results := [.lit (.bool true)], args := [d1, d2] }
  | _ => none }
def calendarInvertsRow : OpenClaim := { program := "ytdeojpmimhagjaadoor", sum := "0bc512de59f7849ec66bcc4dfba63e62bf756c03a13dc3dda97619089499298d", func := "pentaglot/pentaglotlaw17.CalendarInverts", spec := "calendarInverts", named := ["pentaglot/calendar.monthDays"], apart := false, laid := [("pentaglot/calendar.monthDays", laid_pentaglot_calendar_monthDays)] }
def CalendarInvertsSaid : Prop := calendarInvertsRow.holds Tryd.pinned (OpenSpec.ofChange calendarInvertsSpec)

/-- ITS FALSE NEIGHBOUR: 'it returns false'. Refute it at one input. -/
def calendarInvertsWrong : ChangeSpec := { name := "calendarInverts", fn := fun _ => fun
  | [d1, d2] => { results := [.lit (.bool false)], args := [d1, d2] }
  | _ => none }
def CalendarInvertsWrongFalsely : Prop := calendarInvertsRow.holds Tryd.pinned (OpenSpec.ofChange calendarInvertsWrong)

/-- 'pentaglotlaw17.CalendarNext': WHATEVER THE INPUT: true; the input reads as it did. -/
def calendarNextSpec : ChangeSpec := { name := "calendarNext", fn := fun _ => fun
  | [d] => { results := [.lit (.bool true)], args := [d] }
  | _ => none }
def calendarNextRow : OpenClaim := { program := "ytdeojpmimhagjaadoor", sum := "0bc512de59f7849ec66bcc4dfba63e62bf756c03a13dc3dda97619089499298d", func := "pentaglot/pentaglotlaw17.CalendarNext", spec := "calendarNext", named := ["pentaglot/calendar.monthDays"], apart := false, laid := [("pentaglot/calendar.monthDays", laid_pentaglot_calendar_monthDays)] }
def CalendarNextSaid : Prop := calendarNextRow.holds Tryd.pinned (OpenSpec.ofChange calendarNextSpec)

/-- ITS FALSE NEIGHBOUR: 'it returns false'. Refute it at one input. -/
def calendarNextWrong : ChangeSpec := { name := "calendarNext", fn := fun _ => fun
  | [d] => { results := [.lit (.bool false)], args := [d] }
  | _ => none }
def CalendarNextWrongFalsely : Prop := calendarNextRow.holds Tryd.pinned (OpenSpec.ofChange calendarNextWrong)

/-- 'pentaglotlaw17.CalendarCycle': WHATEVER THE INPUT: true; the input reads as it did. -/
def calendarCycleSpec : ChangeSpec := { name := "calendarCycle", fn := fun _ => fun
  | [d] => { results := [.lit (.bool true)], args := [d] }
  | _ => none }
def calendarCycleRow : OpenClaim := { program := "ytdeojpmimhagjaadoor", sum := "0bc512de59f7849ec66bcc4dfba63e62bf756c03a13dc3dda97619089499298d", func := "pentaglot/pentaglotlaw17.CalendarCycle", spec := "calendarCycle", named := ["pentaglot/calendar.monthDays"], apart := false, laid := [("pentaglot/calendar.monthDays", laid_pentaglot_calendar_monthDays)] }
def CalendarCycleSaid : Prop := calendarCycleRow.holds Tryd.pinned (OpenSpec.ofChange calendarCycleSpec)

/-- ITS FALSE NEIGHBOUR: 'it returns false'. Refute it at one input. -/
def calendarCycleWrong : ChangeSpec := { name := "calendarCycle", fn := fun _ => fun
  | [d] => { results := [.lit (.bool false)], args := [d] }
  | _ => none }
def CalendarCycleWrongFalsely : Prop := calendarCycleRow.holds Tryd.pinned (OpenSpec.ofChange calendarCycleWrong)

/-- 'pentaglotlaw17.CalendarRound': WHATEVER THE INPUT: true; the input reads as it did. -/
def calendarRoundSpec : ChangeSpec := { name := "calendarRound", fn := fun _ => fun
  | [d] => { results := [.lit (.bool true)], args := [d] }
  | _ => none }
def calendarRoundRow : OpenClaim := { program := "ytdeojpmimhagjaadoor", sum := "0bc512de59f7849ec66bcc4dfba63e62bf756c03a13dc3dda97619089499298d", func := "pentaglot/pentaglotlaw17.CalendarRound", spec := "calendarRound", named := ["pentaglot/calendar.monthDays"], apart := false, laid := [("pentaglot/calendar.monthDays", laid_pentaglot_calendar_monthDays)] }
def CalendarRoundSaid : Prop := calendarRoundRow.holds Tryd.pinned (OpenSpec.ofChange calendarRoundSpec)

/-- ITS FALSE NEIGHBOUR: 'it returns false'. Refute it at one input. -/
def calendarRoundWrong : ChangeSpec := { name := "calendarRound", fn := fun _ => fun
  | [d] => { results := [.lit (.bool false)], args := [d] }
  | _ => none }
def CalendarRoundWrongFalsely : Prop := calendarRoundRow.holds Tryd.pinned (OpenSpec.ofChange calendarRoundWrong)

/-- 'pentaglotlaw17.CalendarTurns': WHATEVER THE INPUT: true; the input reads as it did. -/
def calendarTurnsSpec : ChangeSpec := { name := "calendarTurns", fn := fun _ => fun
  | [d1, d2] => { results := [.lit (.bool true)], args := [d1, d2] }
  | _ => none }
def calendarTurnsRow : OpenClaim := { program := "ytdeojpmimhagjaadoor", sum := "0bc512de59f7849ec66bcc4dfba63e62bf756c03a13dc3dda97619089499298d", func := "pentaglot/pentaglotlaw17.CalendarTurns", spec := "calendarTurns", named := ["pentaglot/calendar.monthDays"], apart := false, laid := [("pentaglot/calendar.monthDays", laid_pentaglot_calendar_monthDays)] }
def CalendarTurnsSaid : Prop := calendarTurnsRow.holds Tryd.pinned (OpenSpec.ofChange calendarTurnsSpec)

/-- ITS FALSE NEIGHBOUR: 'it returns false'. Refute it at one input. -/
def calendarTurnsWrong : ChangeSpec := { name := "calendarTurns", fn := fun _ => fun
  | [d1, d2] => { results := [.lit (.bool false)], args := [d1, d2] }
  | _ => none }
def CalendarTurnsWrongFalsely : Prop := calendarTurnsRow.holds Tryd.pinned (OpenSpec.ofChange calendarTurnsWrong)

/-- 'pentaglotlaw17.CalendarSearch': WHATEVER THE INPUT: true; the input reads as it did. -/
def calendarSearchSpec : ChangeSpec := { name := "calendarSearch", fn := fun _ => fun
  | [d1, d2, d3] => { results := [.lit (.bool true)], args := [d1, d2, d3] }
  | _ => none }
def calendarSearchRow : OpenClaim := { program := "ytdeojpmimhagjaadoor", sum := "0bc512de59f7849ec66bcc4dfba63e62bf756c03a13dc3dda97619089499298d", func := "pentaglot/pentaglotlaw17.CalendarSearch", spec := "calendarSearch", named := ["pentaglot/calendar.monthDays"], apart := false, laid := [("pentaglot/calendar.monthDays", laid_pentaglot_calendar_monthDays)] }
def CalendarSearchSaid : Prop := calendarSearchRow.holds Tryd.pinned (OpenSpec.ofChange calendarSearchSpec)

/-- ITS FALSE NEIGHBOUR: 'it returns false'. Refute it at one input. -/
def calendarSearchWrong : ChangeSpec := { name := "calendarSearch", fn := fun _ => fun
  | [d1, d2, d3] => { results := [.lit (.bool false)], args := [d1, d2, d3] }
  | _ => none }
def CalendarSearchWrongFalsely : Prop := calendarSearchRow.holds Tryd.pinned (OpenSpec.ofChange calendarSearchWrong)

/-- 'pentaglotlaw17.CalendarFirst': WHATEVER THE INPUT: true; the input reads as it did. -/
def calendarFirstSpec : ChangeSpec := { name := "calendarFirst", fn := fun _ => fun
  | [d1, d2, d3] => { results := [.lit (.bool true)], args := [d1, d2, d3] }
  | _ => none }
def calendarFirstRow : OpenClaim := { program := "ytdeojpmimhagjaadoor", sum := "0bc512de59f7849ec66bcc4dfba63e62bf756c03a13dc3dda97619089499298d", func := "pentaglot/pentaglotlaw17.CalendarFirst", spec := "calendarFirst", named := ["pentaglot/calendar.monthDays"], apart := false, laid := [("pentaglot/calendar.monthDays", laid_pentaglot_calendar_monthDays)] }
def CalendarFirstSaid : Prop := calendarFirstRow.holds Tryd.pinned (OpenSpec.ofChange calendarFirstSpec)

/-- ITS FALSE NEIGHBOUR: 'it returns false'. Refute it at one input. -/
def calendarFirstWrong : ChangeSpec := { name := "calendarFirst", fn := fun _ => fun
  | [d1, d2, d3] => { results := [.lit (.bool false)], args := [d1, d2, d3] }
  | _ => none }
def CalendarFirstWrongFalsely : Prop := calendarFirstRow.holds Tryd.pinned (OpenSpec.ofChange calendarFirstWrong)

/-- 'pentaglotlaw17.CalendarWeek': WHATEVER THE INPUT: true; the input reads as it did. -/
def calendarWeekSpec : ChangeSpec := { name := "calendarWeek", fn := fun _ => fun
  | [d] => { results := [.lit (.bool true)], args := [d] }
  | _ => none }
def calendarWeekRow : OpenClaim := { program := "ytdeojpmimhagjaadoor", sum := "0bc512de59f7849ec66bcc4dfba63e62bf756c03a13dc3dda97619089499298d", func := "pentaglot/pentaglotlaw17.CalendarWeek", spec := "calendarWeek", named := ["pentaglot/calendar.monthDays"], apart := false, laid := [("pentaglot/calendar.monthDays", laid_pentaglot_calendar_monthDays)] }
def CalendarWeekSaid : Prop := calendarWeekRow.holds Tryd.pinned (OpenSpec.ofChange calendarWeekSpec)

/-- ITS FALSE NEIGHBOUR: 'it returns false'. Refute it at one input. -/
def calendarWeekWrong : ChangeSpec := { name := "calendarWeek", fn := fun _ => fun
  | [d] => { results := [.lit (.bool false)], args := [d] }
  | _ => none }
def CalendarWeekWrongFalsely : Prop := calendarWeekRow.holds Tryd.pinned (OpenSpec.ofChange calendarWeekWrong)

/- THE SECOND FORM. 'bulk': how many values and letters a reading holds, each counted each time it is reached (what is shared counts as often as it is met; a slice's spare places count too). A statement '..UptoSaid' is the law's where the arguments, and the package variables that the reading takes, are together of bulk at most 1048576: NARROWER than '..Said'. Prove '..Said' where nothing that the law and all that it calls make is longer than what came in: it says more and counts as full. Else prove '..UptoSaid'. A law counts once. -/
mutual
def uptoBulk {H : Type} : DataW H → Nat
  | .lit (.string bytes) => bytes.length + 1
  | .lit _ => 1
  | .nil => 1
  | .ptr d => uptoBulk d + 1
  | .slice elems spare => uptoBulkAll elems + uptoBulkAll spare + 1
  | .agg parts => uptoBulkAll parts + 1
  | .iface _ d => uptoBulk d + 1
  | .map entries => uptoBulkEntries entries + 1
  | .held _ => 1
def uptoBulkAll {H : Type} : List (DataW H) → Nat
  | [] => 0
  | d :: r => uptoBulk d + uptoBulkAll r
def uptoBulkEntries {H : Type} : List (Lit × DataW H) → Nat
  | [] => 0
  | x :: r => uptoBulkEntry x + uptoBulkEntries r
def uptoBulkEntry {H : Type} : Lit × DataW H → Nat
  | (.string bytes, d) => bytes.length + uptoBulk d + 1
  | (_, d) => uptoBulk d + 1
 end
def uptoSmall : (H : Type) → List (DataW H) → Bool := fun _ ds => decide (uptoBulkAll ds ≤ 1048576)
def OpenSpec.upto (s : _root_.Go.ChangeSpec) : _root_.Go.OpenSpec := { _root_.Go.OpenSpec.ofChange s with cond := some uptoSmall }

/-- 'pentaglotlaw17.CalendarMonths', WHERE WHAT IT READS IS OF BULK AT MOST 1048576: true; the input reads as it did. -/
def calendarMonthsUptoRow : OpenClaim := { program := "ytdeojpmimhagjaadoor", sum := "0bc512de59f7849ec66bcc4dfba63e62bf756c03a13dc3dda97619089499298d", func := "pentaglot/pentaglotlaw17.CalendarMonths", spec := "calendarMonths", named := ["pentaglot/calendar.monthDays"], apart := false, laid := [("pentaglot/calendar.monthDays", laid_pentaglot_calendar_monthDays)], narrowed := true }
def CalendarMonthsUptoSaid : Prop := calendarMonthsUptoRow.holds Tryd.pinned (OpenSpec.upto calendarMonthsSpec)

/-- 'pentaglotlaw17.CalendarYears', WHERE WHAT IT READS IS OF BULK AT MOST 1048576: true; the input reads as it did. -/
def calendarYearsUptoRow : OpenClaim := { program := "ytdeojpmimhagjaadoor", sum := "0bc512de59f7849ec66bcc4dfba63e62bf756c03a13dc3dda97619089499298d", func := "pentaglot/pentaglotlaw17.CalendarYears", spec := "calendarYears", named := ["pentaglot/calendar.monthDays"], apart := false, laid := [("pentaglot/calendar.monthDays", laid_pentaglot_calendar_monthDays)], narrowed := true }
def CalendarYearsUptoSaid : Prop := calendarYearsUptoRow.holds Tryd.pinned (OpenSpec.upto calendarYearsSpec)

/-- 'pentaglotlaw17.CalendarLeaps', WHERE WHAT IT READS IS OF BULK AT MOST 1048576: true; the input reads as it did. -/
def calendarLeapsUptoRow : OpenClaim := { program := "ytdeojpmimhagjaadoor", sum := "0bc512de59f7849ec66bcc4dfba63e62bf756c03a13dc3dda97619089499298d", func := "pentaglot/pentaglotlaw17.CalendarLeaps", spec := "calendarLeaps", named := ["pentaglot/calendar.monthDays"], apart := false, laid := [("pentaglot/calendar.monthDays", laid_pentaglot_calendar_monthDays)], narrowed := true }
def CalendarLeapsUptoSaid : Prop := calendarLeapsUptoRow.holds Tryd.pinned (OpenSpec.upto calendarLeapsSpec)

/-- 'pentaglotlaw17.CalendarStart', WHERE WHAT IT READS IS OF BULK AT MOST 1048576: true; the input reads as it did. -/
def calendarStartUptoRow : OpenClaim := { program := "ytdeojpmimhagjaadoor", sum := "0bc512de59f7849ec66bcc4dfba63e62bf756c03a13dc3dda97619089499298d", func := "pentaglot/pentaglotlaw17.CalendarStart", spec := "calendarStart", named := ["pentaglot/calendar.monthDays"], apart := false, laid := [("pentaglot/calendar.monthDays", laid_pentaglot_calendar_monthDays)], narrowed := true }
def CalendarStartUptoSaid : Prop := calendarStartUptoRow.holds Tryd.pinned (OpenSpec.upto calendarStartSpec)

/-- 'pentaglotlaw17.CalendarSolar', WHERE WHAT IT READS IS OF BULK AT MOST 1048576: true; the input reads as it did. -/
def calendarSolarUptoRow : OpenClaim := { program := "ytdeojpmimhagjaadoor", sum := "0bc512de59f7849ec66bcc4dfba63e62bf756c03a13dc3dda97619089499298d", func := "pentaglot/pentaglotlaw17.CalendarSolar", spec := "calendarSolar", named := ["pentaglot/calendar.monthDays"], apart := false, laid := [("pentaglot/calendar.monthDays", laid_pentaglot_calendar_monthDays)], narrowed := true }
def CalendarSolarUptoSaid : Prop := calendarSolarUptoRow.holds Tryd.pinned (OpenSpec.upto calendarSolarSpec)

/-- 'pentaglotlaw17.CalendarDay', WHERE WHAT IT READS IS OF BULK AT MOST 1048576: true; the input reads as it did. -/
def calendarDayUptoRow : OpenClaim := { program := "ytdeojpmimhagjaadoor", sum := "0bc512de59f7849ec66bcc4dfba63e62bf756c03a13dc3dda97619089499298d", func := "pentaglot/pentaglotlaw17.CalendarDay", spec := "calendarDay", named := ["pentaglot/calendar.monthDays"], apart := false, laid := [("pentaglot/calendar.monthDays", laid_pentaglot_calendar_monthDays)], narrowed := true }
def CalendarDayUptoSaid : Prop := calendarDayUptoRow.holds Tryd.pinned (OpenSpec.upto calendarDaySpec)

/-- 'pentaglotlaw17.CalendarInverts', WHERE WHAT IT READS IS OF BULK AT MOST 1048576: true; the input reads as it did. -/
def calendarInvertsUptoRow : OpenClaim := { program := "ytdeojpmimhagjaadoor", sum := "0bc512de59f7849ec66bcc4dfba63e62bf756c03a13dc3dda97619089499298d", func := "pentaglot/pentaglotlaw17.CalendarInverts", spec := "calendarInverts", named := ["pentaglot/calendar.monthDays"], apart := false, laid := [("pentaglot/calendar.monthDays", laid_pentaglot_calendar_monthDays)], narrowed := true }
def CalendarInvertsUptoSaid : Prop := calendarInvertsUptoRow.holds Tryd.pinned (OpenSpec.upto calendarInvertsSpec)

/-- 'pentaglotlaw17.CalendarNext', WHERE WHAT IT READS IS OF BULK AT MOST 1048576: true; the input reads as it did. -/
def calendarNextUptoRow : OpenClaim := { program := "ytdeojpmimhagjaadoor", sum := "0bc512de59f7849ec66bcc4dfba63e62bf756c03a13dc3dda97619089499298d", func := "pentaglot/pentaglotlaw17.CalendarNext", spec := "calendarNext", named := ["pentaglot/calendar.monthDays"], apart := false, laid := [("pentaglot/calendar.monthDays", laid_pentaglot_calendar_monthDays)], narrowed := true }
def CalendarNextUptoSaid : Prop := calendarNextUptoRow.holds Tryd.pinned (OpenSpec.upto calendarNextSpec)

/-- 'pentaglotlaw17.CalendarCycle', WHERE WHAT IT READS IS OF BULK AT MOST 1048576: true; the input reads as it did. -/
def calendarCycleUptoRow : OpenClaim := { program := "ytdeojpmimhagjaadoor", sum := "0bc512de59f7849ec66bcc4dfba63e62bf756c03a13dc3dda97619089499298d", func := "pentaglot/pentaglotlaw17.CalendarCycle", spec := "calendarCycle", named := ["pentaglot/calendar.monthDays"], apart := false, laid := [("pentaglot/calendar.monthDays", laid_pentaglot_calendar_monthDays)], narrowed := true }
def CalendarCycleUptoSaid : Prop := calendarCycleUptoRow.holds Tryd.pinned (OpenSpec.upto calendarCycleSpec)

/-- 'pentaglotlaw17.CalendarRound', WHERE WHAT IT READS IS OF BULK AT MOST 1048576: true; the input reads as it did. -/
def calendarRoundUptoRow : OpenClaim := { program := "ytdeojpmimhagjaadoor", sum := "0bc512de59f7849ec66bcc4dfba63e62bf756c03a13dc3dda97619089499298d", func := "pentaglot/pentaglotlaw17.CalendarRound", spec := "calendarRound", named := ["pentaglot/calendar.monthDays"], apart := false, laid := [("pentaglot/calendar.monthDays", laid_pentaglot_calendar_monthDays)], narrowed := true }
def CalendarRoundUptoSaid : Prop := calendarRoundUptoRow.holds Tryd.pinned (OpenSpec.upto calendarRoundSpec)

/-- 'pentaglotlaw17.CalendarTurns', WHERE WHAT IT READS IS OF BULK AT MOST 1048576: true; the input reads as it did. -/
def calendarTurnsUptoRow : OpenClaim := { program := "ytdeojpmimhagjaadoor", sum := "0bc512de59f7849ec66bcc4dfba63e62bf756c03a13dc3dda97619089499298d", func := "pentaglot/pentaglotlaw17.CalendarTurns", spec := "calendarTurns", named := ["pentaglot/calendar.monthDays"], apart := false, laid := [("pentaglot/calendar.monthDays", laid_pentaglot_calendar_monthDays)], narrowed := true }
def CalendarTurnsUptoSaid : Prop := calendarTurnsUptoRow.holds Tryd.pinned (OpenSpec.upto calendarTurnsSpec)

/-- 'pentaglotlaw17.CalendarSearch', WHERE WHAT IT READS IS OF BULK AT MOST 1048576: true; the input reads as it did. -/
def calendarSearchUptoRow : OpenClaim := { program := "ytdeojpmimhagjaadoor", sum := "0bc512de59f7849ec66bcc4dfba63e62bf756c03a13dc3dda97619089499298d", func := "pentaglot/pentaglotlaw17.CalendarSearch", spec := "calendarSearch", named := ["pentaglot/calendar.monthDays"], apart := false, laid := [("pentaglot/calendar.monthDays", laid_pentaglot_calendar_monthDays)], narrowed := true }
def CalendarSearchUptoSaid : Prop := calendarSearchUptoRow.holds Tryd.pinned (OpenSpec.upto calendarSearchSpec)

/-- 'pentaglotlaw17.CalendarFirst', WHERE WHAT IT READS IS OF BULK AT MOST 1048576: true; the input reads as it did. -/
def calendarFirstUptoRow : OpenClaim := { program := "ytdeojpmimhagjaadoor", sum := "0bc512de59f7849ec66bcc4dfba63e62bf756c03a13dc3dda97619089499298d", func := "pentaglot/pentaglotlaw17.CalendarFirst", spec := "calendarFirst", named := ["pentaglot/calendar.monthDays"], apart := false, laid := [("pentaglot/calendar.monthDays", laid_pentaglot_calendar_monthDays)], narrowed := true }
def CalendarFirstUptoSaid : Prop := calendarFirstUptoRow.holds Tryd.pinned (OpenSpec.upto calendarFirstSpec)

/-- 'pentaglotlaw17.CalendarWeek', WHERE WHAT IT READS IS OF BULK AT MOST 1048576: true; the input reads as it did. -/
def calendarWeekUptoRow : OpenClaim := { program := "ytdeojpmimhagjaadoor", sum := "0bc512de59f7849ec66bcc4dfba63e62bf756c03a13dc3dda97619089499298d", func := "pentaglot/pentaglotlaw17.CalendarWeek", spec := "calendarWeek", named := ["pentaglot/calendar.monthDays"], apart := false, laid := [("pentaglot/calendar.monthDays", laid_pentaglot_calendar_monthDays)], narrowed := true }
def CalendarWeekUptoSaid : Prop := calendarWeekUptoRow.holds Tryd.pinned (OpenSpec.upto calendarWeekSpec)

end Rows
end Go.Proofs.YtdeojpmimhagjaaDoor
