package places

import (
	"strconv"

	"noctuary/api"
)

// PrintSquare returns the text of a square.
func PrintSquare(s api.Square) (string, api.Errno) {
	if !ValidSquare(s) {
		return "", api.ErrSquare
	}
	return squareText(s), api.OK
}

// ParseSquare returns the square whose text is s.
func ParseSquare(s string) (api.Square, api.Errno) {
	l := numbers(s, ":,")
	if len(l) != 3 {
		return api.Square{}, api.ErrText
	}
	q := api.Square{Level: l[0], X: l[1], Y: l[2]}
	if !ValidSquare(q) || squareText(q) != s {
		return api.Square{}, api.ErrText
	}
	return q, api.OK
}

// PrintNight returns the text of a night.
func PrintNight(night int) (string, api.Errno) {
	if !validNight(night) {
		return "", api.ErrArg
	}
	return nightText(dateBehind(night), dateBehind(night+1)), api.OK
}

// ParseNight returns the night whose text is s.
func ParseNight(s string) (int, api.Errno) {
	begin, end := readNight(s)
	night, e := NightOf(begin)
	if e != api.OK || end != dateBehind(night+1) || nightText(begin, end) != s {
		return 0, api.ErrText
	}
	return night, api.OK
}

func squareText(s api.Square) string {
	return strconv.Itoa(s.Level) + ":" + strconv.Itoa(s.X) + "," + strconv.Itoa(s.Y)
}

// nightText returns the text of the night from one date to the next one.
func nightText(begin, end api.Date) string {
	text := dateText(begin) + "/"
	switch {
	case end.Year != begin.Year:
		return text + dateText(end)
	case end.Month != begin.Month:
		return text + twoDigits(end.Month) + "-" + twoDigits(end.Day)
	}
	return text + twoDigits(end.Day)
}

func dateText(d api.Date) string {
	return strconv.Itoa(firstYear+d.Year) + "-" + twoDigits(d.Month) + "-" + twoDigits(d.Day)
}

func twoDigits(n int) string {
	return strconv.Itoa(n/10) + strconv.Itoa(n%10)
}

// readNight reads both dates of a night's text, which may still be written wrongly; if there are not enough numbers for them, it returns dates that are not valid.
func readNight(s string) (begin, end api.Date) {
	l := numbers(s, "--/--")
	if len(l) < 4 {
		return api.Date{}, api.Date{}
	}
	begin = api.Date{Year: l[0] - firstYear, Month: l[1], Day: l[2]}
	switch len(l) {
	case 4:
		end = api.Date{Year: begin.Year, Month: begin.Month, Day: l[3]}
	case 5:
		end = api.Date{Year: begin.Year, Month: l[3], Day: l[4]}
	default:
		end = api.Date{Year: l[3] - firstYear, Month: l[4], Day: l[5]}
	}
	return begin, end
}

// numbers reads numbers with the given marks between them, as far as the text goes on like that. It does not tell how they were written, nor what follows: whoever calls it must print them and compare.
func numbers(s, marks string) []int {
	l := []int{0}
reading:
	for i := range len(s) {
		last := len(l) - 1
		switch c := s[i]; {
		case '0' <= c && c <= '9':
			l[last] = 10*l[last] + int(c-'0')
			if l[last] > 9999 { // no number of a text has more than four digits
				break reading
			}
		case last < len(marks) && c == marks[last]:
			l = append(l, 0)
		default:
			break reading
		}
	}
	return l
}
