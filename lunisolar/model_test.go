package lunisolar

import (
	"pentaglot/api"
)

// plain returns a date outside an intercalary month.
func plain(year, month, day int) api.Date {
	return api.Date{Calendar: 2, Year: year, Month: month, Day: day}
}

// leap returns a date with Leap set.
func leap(year, month, day int) api.Date {
	return api.Date{Calendar: 2, Year: year, Month: month, Day: day, Leap: true}
}

// leapBy reports whether a year is a leap year, by the definition.
func leapBy(year int) bool {
	for _, remainder := range []int{2, 5, 7, 10, 13, 15, 18} {
		if year >= 0 && year%19 == remainder {
			return true
		}
	}
	return false
}

// monthDaysBy returns the number of days of the month of a date, by the definition.
func monthDaysBy(d api.Date) int {
	switch {
	case d.Calendar != 2 || d.Year < 0 || d.Month < 1 || d.Month > 12:
		return 0
	case d.Leap && (d.Month != 6 || !leapBy(d.Year)):
		return 0
	case d.Leap || d.Month%2 == 1:
		return 30
	}
	return 29
}

// after returns the date of the day after that of a valid date.
func after(d api.Date) api.Date {
	d.Day++
	switch {
	case d.Day <= monthDaysBy(d):
		return d
	case d.Month == 6 && !d.Leap && leapBy(d.Year):
		return leap(d.Year, 6, 1)
	case d.Month == 12:
		return plain(d.Year+1, 1, 1)
	}
	return plain(d.Year, d.Month+1, 1)
}

// allDates returns the dates of the days 0 to MaxDay.
func allDates() []api.Date {
	d := plain(0, 1, 1)
	out := make([]api.Date, api.MaxDay+1)
	for day := range out {
		out[day] = d
		d = after(d)
	}
	return out
}
