package lunisolar

import (
	"pentaglot/api"
)

const (
	yearDays         = 354 // of a year that is not a leap year
	intercalaryMonth = 6
	intercalaryDays  = 30
	cycleYears       = 19 // years until the leap years repeat
	cycleDays        = 6936
)

// monthDays holds the lengths of the months 1 to 12.
var monthDays = [12]int{30, 29, 30, 29, 30, 29, 30, 29, 30, 29, 30, 29}

// exists reports whether the month of a date exists.
func exists(d api.Date) bool {
	if d.Calendar != api.Lunisolar || d.Year < 0 || d.Month < 1 || d.Month > len(monthDays) {
		return false
	}
	return !d.Leap || d.Month == intercalaryMonth && Leap(d.Year)
}

// yearStart returns the first day of a year: it counts the days of the years before it.
func yearStart(year int) int {
	day := year / cycleYears * cycleDays
	for before := range year % cycleYears {
		day += YearDays(before)
	}
	return day
}

// yearOf returns the year of a day.
func yearOf(day int) int {
	year, rest := day/cycleDays*cycleYears, day%cycleDays
	for rest >= YearDays(year) {
		rest -= YearDays(year)
		year++
	}
	return year
}

// upToMaxDay returns a number that is not negative if it is a day.
func upToMaxDay(day int) (int, api.Errno) {
	if day > api.MaxDay {
		return 0, api.ErrTooLarge
	}
	return day, api.OK
}
