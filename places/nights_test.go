package places_test

import (
	"slices"
	"testing"
	"time"

	"noctuary/api"
	"noctuary/places"
)

func date(year, month, day int) api.Date { return api.Date{Year: year, Month: month, Day: day} }

func season(from, to int) api.Season { return api.Season{From: from, To: to} }

// calendar returns the date on which a night begins, by the library's calendar.
func calendar(night int) time.Time {
	return time.Date(2000, time.January, 1+night, 0, 0, 0, 0, time.UTC)
}

// calendarHas reports whether the library's calendar has a date.
func calendarHas(year, month, day int) bool {
	t := time.Date(2000+year, time.Month(month), day, 0, 0, 0, 0, time.UTC)
	return t.Year() == 2000+year && int(t.Month()) == month && t.Day() == day
}

func badNights() []int { return []int{-1, -1 << 62, api.MaxDay + 1, 1 << 62} }

func badDates() []api.Date {
	return []api.Date{
		{}, date(-1, 12, 31), date(274, 1, 1), date(2000, 1, 1), date(0, 0, 1), date(0, 13, 1), date(0, -1, 1), date(0, 1, 0), date(0, 1, 32), date(0, 1, -1),
		date(0, 2, 30), date(1, 2, 29), date(100, 2, 29), date(200, 2, 29), date(4, 2, 30), date(0, 4, 31), date(0, 6, 31), date(0, 9, 31), date(0, 11, 31), date(0, 12, 32),
		date(1<<60, 1, 1), date(-1<<62, 1, 1), date(0, 1<<60, 1), date(0, 1, 1<<60), date(274, 13, 40),
	}
}

// P1.1 (L17): a date is valid if the calendar has it.
func TestValidDate(t *testing.T) {
	for year := -2; year <= api.MaxYear+2; year++ {
		for month := -1; month <= 14; month++ {
			for day := -1; day <= 33; day++ {
				want := year >= 0 && year <= api.MaxYear && calendarHas(year, month, day)
				if d := date(year, month, day); places.ValidDate(d) != want {
					t.Fatalf("ValidDate(%v): %v", d, !want)
				}
			}
		}
	}
	for _, d := range badDates() {
		if places.ValidDate(d) {
			t.Errorf("ValidDate(%v): true", d)
		}
	}
}

// P1.1 (L18, L19) and P1.7: NightOf and DateOf undo each other, for all nights; a later night has a later date.
func TestNightsAndDates(t *testing.T) {
	last := []int{-1, 0, 0}
	for night := range api.MaxDay + 1 {
		c := calendar(night)
		want := date(c.Year()-2000, int(c.Month()), c.Day())
		d, e := places.DateOf(night)
		if e != api.OK || d != want {
			t.Fatalf("DateOf(%d): %v, error %d; want %v", night, d, e, want)
		}
		if n, e := places.NightOf(d); e != api.OK || n != night {
			t.Fatalf("NightOf(%v): %d, error %d; want %d", d, n, e, night)
		}
		now := []int{d.Year, d.Month, d.Day}
		if slices.Compare(last, now) >= 0 || !places.ValidDate(d) {
			t.Fatalf("the night %d begins on %v, the one before on %v", night, now, last)
		}
		last = now
	}
}

// P1.1 (L18, L19): the examples.
func TestNightExamples(t *testing.T) {
	for d, want := range map[api.Date]int{date(0, 2, 29): 59, date(1, 1, 1): 366, date(0, 12, 31): 365, date(0, 1, 1): 0, date(273, 10, 15): 99999} {
		if n, e := places.NightOf(d); e != api.OK || n != want {
			t.Errorf("NightOf(%v): %d, error %d", d, n, e)
		}
		if back, e := places.DateOf(want); e != api.OK || back != d {
			t.Errorf("DateOf(%d): %v, error %d", want, back, e)
		}
	}
	march, _ := places.NightOf(date(100, 3, 1))
	february, _ := places.NightOf(date(100, 2, 28))
	if march-february != 1 {
		t.Errorf("there are %d nights from February 28th to March 1st of 2100", march-february)
	}
}

// P1.1 (L18, L19): errors.
func TestNightErrors(t *testing.T) {
	for _, d := range badDates() {
		if n, e := places.NightOf(d); e != api.ErrDate || n != 0 {
			t.Errorf("NightOf(%v): %d, error %d", d, n, e)
		}
	}
	for _, d := range []api.Date{date(273, 10, 16), date(273, 11, 1), date(273, 12, 31)} {
		if n, e := places.NightOf(d); e != api.ErrLimit || n != 0 {
			t.Errorf("NightOf(%v): %d, error %d", d, n, e)
		}
	}
	for _, night := range badNights() {
		if d, e := places.DateOf(night); e != api.ErrArg || d != (api.Date{}) {
			t.Errorf("DateOf(%d): %v, error %d", night, d, e)
		}
	}
}

// P1.1 (L20): both ends of a season are dates of a year with a February 29th.
func TestValidSeason(t *testing.T) {
	for n := -1500; n <= 1500; n++ {
		want := n > 0 && calendarHas(0, n/100, n%100)
		for _, s := range []api.Season{season(n, 101), season(1231, n), season(n, n)} {
			if places.ValidSeason(s) != want {
				t.Errorf("ValidSeason(%v): %v", s, !want)
			}
		}
	}
	for _, s := range []api.Season{{}, season(101, 0), season(1<<60, 101), season(101, -1<<62), season(10101, 101)} {
		if places.ValidSeason(s) {
			t.Errorf("ValidSeason(%v): true", s)
		}
	}
}

// P1.1 (L21).
func TestInSeason(t *testing.T) {
	ends := []int{101, 131, 201, 228, 229, 301, 630, 701, 1101, 1130, 1230, 1231}
	nights := []int{0, 58, 59, 60, 365, 366, 366 + 58, 366 + 59, 36524, 36525, api.MaxDay}
	for n := range 366 {
		nights = append(nights, n)
	}
	for _, from := range ends {
		for _, to := range ends {
			for _, night := range nights {
				c := calendar(night)
				n := 100*int(c.Month()) + c.Day()
				want := from <= n && n <= to
				if from > to {
					want = n >= from || n <= to
				}
				if in, e := places.InSeason(season(from, to), night); e != api.OK || in != want {
					t.Fatalf("InSeason({%d, %d}, %d): %v, error %d", from, to, night, in, e)
				}
			}
		}
	}
	for s, want := range map[api.Season]bool{season(1101, 228): false, season(1101, 229): true, season(229, 229): true, season(301, 1031): false} {
		if in, e := places.InSeason(s, 59); e != api.OK || in != want {
			t.Errorf("InSeason(%v, 59): %v, error %d", s, in, e)
		}
	}
}

// P1.1 (L21): errors; ErrDate comes ahead of ErrArg.
func TestInSeasonErrors(t *testing.T) {
	for _, s := range []api.Season{{}, season(230, 301), season(301, 230), season(1301, 101), season(100, 101), season(-101, 101)} {
		for _, night := range []int{59, -1, api.MaxDay + 1} {
			if in, e := places.InSeason(s, night); e != api.ErrDate || in {
				t.Errorf("InSeason(%v, %d): %v, error %d", s, night, in, e)
			}
		}
	}
	for _, night := range badNights() {
		if in, e := places.InSeason(season(101, 1231), night); e != api.ErrArg || in {
			t.Errorf("InSeason of the night %d: %v, error %d", night, in, e)
		}
	}
}

// P1.7: a night is in a season if and only if it is not in the season of all other dates, unless one of both has all dates.
func TestSeasonOfOtherDates(t *testing.T) {
	days := []int{}
	for n := range 366 {
		c := calendar(n)
		days = append(days, 100*int(c.Month())+c.Day())
	}
	for from := 0; from < 366; from += 5 {
		for to := 1; to < 366; to += 7 {
			if (to+1)%366 == from { // all dates
				continue
			}
			s, others := season(days[from], days[to]), season(days[(to+1)%366], days[(from+365)%366])
			for _, night := range []int{from, to, (to + 1) % 366, (from + 365) % 366, 59, 366 + 58, 366 + 59, 50000 + from, 73000 + to} {
				in, e := places.InSeason(s, night)
				out, f := places.InSeason(others, night)
				if e != api.OK || f != api.OK || in == out {
					t.Fatalf("the night %d: in %v: %v; in %v: %v", night, s, in, others, out)
				}
			}
		}
	}
}
