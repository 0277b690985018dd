package phrase

import (
	"math/rand"
	"strings"
	"testing"

	"pentaglot/api"
	"pentaglot/calendar"
	"pentaglot/lunisolar"
)

// languages are the built-in languages.
func languages() []api.Language {
	return []api.Language{api.Anta(), api.Bero(), api.Cuni(), api.Delu(), api.Emai()}
}

// TestLanguages checks that no two days, minutes or amounts of a built-in language have the same phrase, and that phrases can be read.
func TestLanguages(t *testing.T) { // P4, P20.5
	t.Parallel()
	for _, l := range languages() {
		t.Run(l.Name, func(t *testing.T) {
			t.Parallel()
			n, p := l.Numerals, l.Phrasing
			if !Valid(n, p) {
				t.Fatal("not valid")
			}
			for count, phrase := range map[int]func(int) ([]string, api.Errno){
				1000000: func(day int) ([]string, api.Errno) { return Date(n, p, day) },
				1440:    func(minute int) ([]string, api.Errno) { return Clock(n, p, minute) },
				100000:  func(value int) ([]string, api.Errno) { return Amount(n, l.Units, value) },
			} {
				groups := newIndex(count, func(number int) []string { list, _ := phrase(number); return list }).groups()
				if _, found := groups[1]; len(groups) != 1 || !found {
					t.Errorf("of %d numbers some share phrases: %v", count, groups)
				}
			}
			for minute := range 1440 {
				phrase, _ := Clock(n, p, minute)
				minutes, e := ParseClock(n, p, phrase)
				checkFound(t, phrase, []int{minute}, minutes, e)
			}
			source := rand.New(rand.NewSource(6))
			for range 4000 {
				checkRead(t, l, source.Intn(api.MaxTime+1), source.Intn(10000*l.Units[len(l.Units)-1].Size))
			}
		})
	}
}

// checkRead checks that only a time has its phrase, and only its day that of its day, and that only an amount has its phrase.
func checkRead(t *testing.T, l api.Language, time, value int) {
	phrase, _ := Time(l.Numerals, l.Phrasing, time)
	times, e := ParseTime(l.Numerals, l.Phrasing, phrase)
	checkFound(t, phrase, []int{time}, times, e)
	phrase, _ = Date(l.Numerals, l.Phrasing, time/1440)
	days, e := ParseDate(l.Numerals, l.Phrasing, phrase)
	checkFound(t, phrase, []int{time / 1440}, days, e)
	phrase, _ = Amount(l.Numerals, l.Units, value)
	values, e := ParseAmount(l.Numerals, l.Units, phrase)
	checkFound(t, phrase, []int{value}, values, e)
}

// TestLanguageExamples checks phrases of the time 1501, of day 885 and of the amount 128.
func TestLanguageExamples(t *testing.T) { // P20.2, P20.4
	for i, want := range [][]string{
		{"tag du ianuo anno nul ora un minut un", "tag tri iunio anno du", "dek denaro ok aso"},
		{"nol sal bar mah ika gun gede bar saat bar dakik", "ika sal artik alta mah bar gun", "alta lir seka kur"},
		{"oni oras oni matin dia duo meso oni ano nul", "dia treo meso seto ano duo", "oni talo duo min treo deso grosh"},
		{"גמלא מספר שתימ סבוב אפס שעה אחד דקה אחד", "נחשא מספר שתימ סבוב שלש", "שש שקל שמנ גרה"},
		{"yolla yksu tunt yksu minu vuos nolla kuu yksu paiv kaksu", "vuos kaksu kuu kuusu paiv kolme", "yksu markka kaira sek kahdu penni"},
	} {
		l := languages()[i]
		got, e := Time(l.Numerals, l.Phrasing, 1501)
		checkSaid(t, 1501, want[0], got, e)
		got, e = Date(l.Numerals, l.Phrasing, 885)
		checkSaid(t, 885, want[1], got, e)
		got, e = Amount(l.Numerals, l.Units, 128)
		checkSaid(t, 128, want[2], got, e)
	}
}

// TestCalendars checks that the dates of a day in all calendars denote that day.
func TestCalendars(t *testing.T) { // P4
	for _, day := range someDays() {
		solar, _ := calendar.SolarDate(day)
		lunar, _ := lunisolar.Date(day)
		cycle, _ := calendar.CycleDate(day)
		a, e := calendar.SolarDay(solar)
		b, f := lunisolar.Day(lunar)
		c, g := calendar.CycleDay(cycle)
		if a != day || b != day || c != day || e != api.OK || f != api.OK || g != api.OK {
			t.Errorf("%d: %d, %d, %d", day, a, b, c)
		}
		for _, l := range languages() {
			phrase := dayBy(l.Numerals, l.Phrasing, day)
			got, e := Date(l.Numerals, l.Phrasing, day)
			checkSaid(t, day, strings.Join(phrase, " "), got, e)
		}
	}
}
