package calendar

import (
	"testing"

	"pentaglot/api"
)

// leapBy reports whether a year is a leap year, by the definition.
func leapBy(year int) bool {
	if year < 0 || year%128 == 0 {
		return false
	}
	return year%4 == 0
}

// monthDaysBy returns the number of days of a month, by the definition.
func monthDaysBy(year, month int) int {
	switch {
	case year < 0 || month < 1 || month > 12:
		return 0
	case month == 12 && leapBy(year):
		return 30
	case month == 12:
		return 29
	case month%2 == 1:
		return 31
	}
	return 30
}

// solar returns a solar date.
func solar(year, month, day int) api.Date {
	return api.Date{Calendar: 1, Year: year, Month: month, Day: day}
}

// cycle returns a cycle date.
func cycle(round, number, name int) api.Date {
	return api.Date{Calendar: 3, Year: round, Month: number, Day: name}
}

// afterSolar returns the solar date of the day after that of a date.
func afterSolar(d api.Date) api.Date {
	d.Day++
	if d.Day > monthDaysBy(d.Year, d.Month) {
		d.Month, d.Day = d.Month+1, 1
	}
	if d.Month > 12 {
		d.Year, d.Month = d.Year+1, 1
	}
	return d
}

// afterCycle returns the cycle date of the day after that of a date.
func afterCycle(d api.Date) api.Date {
	d.Month, d.Day = d.Month+1, d.Day+1
	if d.Month == 14 {
		d.Month = 1
	}
	if d.Day == 20 {
		d.Day = 0
	}
	if d.Month == 1 && d.Day == 0 {
		d.Year++
	}
	return d
}

// checkDates checks the dates of days, and the days of these dates.
func checkDates(t *testing.T, dates map[int]api.Date, toDate func(int) (api.Date, api.Errno), toDay func(api.Date) (int, api.Errno)) {
	for day, want := range dates {
		if d, e := toDate(day); d != want || e != api.OK {
			t.Errorf("the date of %d: %v, %d, not %v", day, d, e, want)
		}
		if n, e := toDay(want); n != day || e != api.OK {
			t.Errorf("the day of %v: %d, %d, not %d", want, n, e, day)
		}
	}
}

// checkAllDates checks the dates of all days, and the days of these dates, with the first date and the step to the next one; it returns the date after the last one.
func checkAllDates(t *testing.T, d api.Date, next func(api.Date) api.Date, toDate func(int) (api.Date, api.Errno), toDay func(api.Date) (int, api.Errno)) api.Date {
	for day := range api.MaxDay + 1 {
		checkDates(t, map[int]api.Date{day: d}, toDate, toDay)
		if t.Failed() {
			break
		}
		d = next(d)
	}
	return d
}
