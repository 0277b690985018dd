package calendar

import (
	"pentaglot/api"
)

// yearDays is the number of days of a year that is not a leap year.
const yearDays = 365

// monthDays holds the lengths of the months of a year that is not a leap year.
var monthDays = [12]int{31, 30, 31, 30, 31, 30, 31, 30, 31, 30, 31, 29}

// yearStart returns the first day of a year: it counts the days of the years before it.
func yearStart(year int) int {
	fourths, exceptions := (year+3)/4, (year+127)/128 // year 0 is one of both
	return yearDays*year + fourths - exceptions
}

// yearOf returns the year of a day.
func yearOf(day int) int {
	// Without leap years it would be this year; with them it is this one or one of the few before it.
	year := day / yearDays
	for yearStart(year) > day {
		year--
	}
	return year
}

// solarDate returns a date of the solar calendar.
func solarDate(year, month, day int) api.Date {
	return api.Date{Calendar: api.Solar, Year: year, Month: month, Day: day}
}
