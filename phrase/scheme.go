package phrase

import (
	"slices"

	"pentaglot/api"
	"pentaglot/clock"
	"pentaglot/numeral"
	"pentaglot/token"
)

const (
	maxParts   = 12
	monthNames = 12
	dayNames   = 20
)

// scheme says how days and minutes are expressed.
type scheme struct {
	api.NumeralSystem
	api.Phrasing
}

// check returns the error for a number that is to be expressed.
func (s scheme) check(number, greatest int) api.Errno {
	if !s.isValid() || number < 0 {
		return api.ErrArgument
	}
	if number > greatest {
		return api.ErrTooLarge
	}
	return api.OK
}

// isValid reports whether the numeral system and the phrasing are valid.
func (s scheme) isValid() bool {
	return numeral.Valid(s.NumeralSystem) && s.isDateValid() && s.isTimeValid()
}

// isDateValid reports whether the calendar, the names of its months and days, and the parts of dates are valid.
func (s scheme) isDateValid() bool {
	switch s.Calendar {
	case api.Solar, api.Lunisolar:
		if len(s.Months) != 0 && !areTokens(s.Months, monthNames) || len(s.Days) != 0 {
			return false
		}
	case api.Cycle:
		if len(s.Months) != 0 || !areTokens(s.Days, dayNames) {
			return false
		}
	default:
		return false
	}
	return areParts(s.Date, api.PartWord, api.PartYear, api.PartMonth, api.PartDay, api.PartLeap) &&
		occur(s.Date, api.PartYear, api.PartMonth, api.PartDay) &&
		(s.Calendar != api.Lunisolar || occur(s.Date, api.PartLeap))
}

// isTimeValid reports whether the clock, the names of its periods, and the parts of times of day are valid.
func (s scheme) isTimeValid() bool {
	periods := clock.Periods(s.Clock)
	if periods == 0 || len(s.Periods) != 0 && !areTokens(s.Periods, periods) {
		return false
	}
	hasPeriod := occur(s.Time, api.PartPeriod)
	if periods > 1 && !hasPeriod || hasPeriod && len(s.Periods) == 0 {
		return false
	}
	return areParts(s.Time, api.PartWord, api.PartHour, api.PartMinute, api.PartPeriod) &&
		occur(s.Time, api.PartHour, api.PartMinute)
}

// areTokens reports whether a list consists of so many tokens.
func areTokens(list []string, count int) bool { return len(list) == count && token.All(list) }

// areParts reports whether parts are not too many, and each is of one of the kinds and has a Word just if its kind needs it.
func areParts(parts []api.PhrasePart, kinds ...int) bool {
	isWrong := func(part api.PhrasePart) bool {
		if part.Kind == api.PartWord || part.Kind == api.PartLeap {
			return !slices.Contains(kinds, part.Kind) || !token.Is(part.Word)
		}
		return !slices.Contains(kinds, part.Kind) || part.Word != ""
	}
	return len(parts) <= maxParts && !slices.ContainsFunc(parts, isWrong)
}

// occur reports whether each kind is that of some part.
func occur(parts []api.PhrasePart, kinds ...int) bool {
	for _, kind := range kinds {
		hasKind := func(part api.PhrasePart) bool { return part.Kind == kind }
		if !slices.ContainsFunc(parts, hasKind) {
			return false
		}
	}
	return true
}
