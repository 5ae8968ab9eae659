package places

import "noctuary/api"

const firstYear = 2000 // the year that is counted as 0

// monthDays has the days of the months of a year that has a February 29th.
var monthDays = [12]int{31, 29, 31, 30, 31, 30, 31, 31, 30, 31, 30, 31}

// ValidDate reports whether a date is valid.
func ValidDate(d api.Date) bool {
	if d.Year < 0 || d.Year > api.MaxYear || d.Month < 1 || d.Month > 12 {
		return false
	}
	return d.Day >= 1 && d.Day <= daysOfMonth(d.Year, d.Month)
}

// NightOf returns the night that begins on a date.
func NightOf(d api.Date) (int, api.Errno) {
	if !ValidDate(d) {
		return 0, api.ErrDate
	}
	night := d.Day - 1
	for year := range d.Year {
		night += daysOfYear(year)
	}
	for month := 1; month < d.Month; month++ {
		night += daysOfMonth(d.Year, month)
	}
	if night > api.MaxDay {
		return 0, api.ErrLimit
	}
	return night, api.OK
}

// DateOf returns the date on which a night begins.
func DateOf(night int) (api.Date, api.Errno) {
	if !validNight(night) {
		return api.Date{}, api.ErrArg
	}
	return dateBehind(night), api.OK
}

// ValidSeason reports whether a season is valid.
func ValidSeason(s api.Season) bool {
	return validDayOfYear(s.From) && validDayOfYear(s.To)
}

// InSeason reports whether a night is in a season.
func InSeason(s api.Season, night int) (bool, api.Errno) {
	if !ValidSeason(s) {
		return false, api.ErrDate
	}
	if !validNight(night) {
		return false, api.ErrArg
	}
	d := dateBehind(night)
	n := 100*d.Month + d.Day
	if s.From <= s.To {
		return s.From <= n && n <= s.To, api.OK
	}
	return n >= s.From || n <= s.To, api.OK
}

func validNight(night int) bool { return night >= 0 && night <= api.MaxDay }

// validDayOfYear reports whether n is 100 * month + day of a date of the year 0, which has a February 29th.
func validDayOfYear(n int) bool {
	return ValidDate(api.Date{Month: n / 100, Day: n % 100})
}

// dateBehind returns the date that comes a number of days behind January 1st of the year 0.
func dateBehind(days int) api.Date {
	year, month := 0, 1
	for days >= daysOfYear(year) {
		days -= daysOfYear(year)
		year++
	}
	for days >= daysOfMonth(year, month) {
		days -= daysOfMonth(year, month)
		month++
	}
	return api.Date{Year: year, Month: month, Day: days + 1}
}

func daysOfYear(year int) int {
	if leap(year) {
		return 366
	}
	return 365
}

func daysOfMonth(year, month int) int {
	if month == 2 && !leap(year) {
		return 28
	}
	return monthDays[month-1]
}

// leap reports whether a year has a February 29th.
func leap(year int) bool {
	y := firstYear + year
	return y%4 == 0 && y%100 != 0 || y%400 == 0
}
