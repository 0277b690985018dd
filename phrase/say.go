package phrase

import (
	"pentaglot/api"
	"pentaglot/calendar"
	"pentaglot/clock"
	"pentaglot/lunisolar"
	"pentaglot/numeral"
)

// values holds the value of each kind of parts; those of words do not matter.
type values [api.PartPeriod + 1]int

// date returns the phrase of a day.
func (s scheme) date(day int) []string {
	d := dateOf(s.Calendar, day)
	v := values{api.PartYear: d.Year, api.PartMonth: d.Month, api.PartDay: d.Day}
	if d.Leap {
		v[api.PartLeap] = 1
	}
	return s.say(s.Date, v)
}

// minute returns the phrase of a minute of the day.
func (s scheme) minute(minute int) []string {
	c, _ := clock.Time(s.Clock, minute)
	return s.say(s.Time, values{api.PartHour: c.Hour, api.PartMinute: c.Minute, api.PartPeriod: c.Period})
}

// say returns the tokens of parts with these values.
func (s scheme) say(parts []api.PhrasePart, v values) []string {
	var out []string
	for _, part := range parts {
		value := v[part.Kind]
		names, first := s.names(part)
		if len(names) == 0 {
			words, _ := numeral.Words(s.NumeralSystem, value)
			out = append(out, words...)
		} else if name := names[value-first]; name != "" {
			out = append(out, name)
		}
	}
	return out
}

// names returns the tokens of the values of a part, which begin with first, and an empty string for a value without a token; there are none if the values are expressed by numerals.
func (s scheme) names(part api.PhrasePart) (names []string, first int) {
	switch part.Kind {
	case api.PartWord:
		return []string{part.Word}, 0
	case api.PartLeap:
		return []string{"", part.Word}, 0
	case api.PartMonth:
		return s.Months, 1
	case api.PartDay:
		return s.Days, 0
	case api.PartPeriod:
		return s.Periods, 0
	}
	return nil, 0
}

// dateOf returns the date of a day in a calendar.
func dateOf(kind, day int) api.Date {
	var d api.Date
	switch kind {
	case api.Solar:
		d, _ = calendar.SolarDate(day)
	case api.Lunisolar:
		d, _ = lunisolar.Date(day)
	case api.Cycle:
		d, _ = calendar.CycleDate(day)
	}
	return d
}

// dayOf returns the day of a date of any calendar.
func dayOf(d api.Date) (int, api.Errno) {
	switch d.Calendar {
	case api.Solar:
		return calendar.SolarDay(d)
	case api.Lunisolar:
		return lunisolar.Day(d)
	}
	return calendar.CycleDay(d)
}
