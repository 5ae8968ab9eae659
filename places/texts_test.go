package places_test

import (
	"fmt"
	"strings"
	"testing"

	"noctuary/api"
	"noctuary/places"
)

// P1.1 (L15).
func TestPrintSquare(t *testing.T) {
	for s, want := range map[api.Square]string{sq(3, 5, 2): "3:5,2", sq(10, 0, 0): "10:0,0", sq(0, 1023, 0): "0:1023,0", sq(0, 0, 1023): "0:0,1023", sq(1, 10, 100): "1:10,100"} {
		if text, e := places.PrintSquare(s); e != api.OK || text != want {
			t.Errorf("PrintSquare(%v): %q, error %d", s, text, e)
		}
	}
	for _, s := range badSquares() {
		if text, e := places.PrintSquare(s); e != api.ErrSquare || text != "" {
			t.Errorf("PrintSquare(%v): %q, error %d", s, text, e)
		}
	}
}

// P1.1 (L16): texts of no square.
func TestParseSquareErrors(t *testing.T) {
	for _, s := range []string{
		"", ":", ":,", "3", "3:", "3:5", "3:5,", ":5,2", "3:,2", "3:5,2,", "3:5,2:", "3:5:2", "3,5,2", "3,5:2", "3 5 2", "5,2", "3::5,2", "3:5,,2", "3:5,2,1",
		"3:05,2", "03:5,2", "3:5,02", "3:00,2", "3:5,2 ", " 3:5,2", "3: 5,2", "3:5, 2", "3:5,2\n", "3:5,2\x00", "+3:5,2", "3:+5,2", "3:-5,2", "-0:5,2", "3:5,-0", "0x3:5,2", "3:5,a", "3:5.0,2", "3:5,2é", "٣:5,2",
		"10:0,1", "10:1,0", "11:0,0", "3:128,0", "3:0,128", "0:1024,0", "0:0,1024",
		"0:18446744073709551616,0", "18446744073709551619:5,2", "3:5,340282366920938463463374607431768211458", "0:10000,0", "0:" + strings.Repeat("0", 100000) + "5,2", "0:" + strings.Repeat("9", 100000) + ",2",
		"\xff", "3:5\xff,2", "3:5,2" + strings.Repeat(" ", 1000),
	} {
		if q, e := places.ParseSquare(s); e != api.ErrText || q != (api.Square{}) {
			t.Errorf("ParseSquare(%.40q): %v, error %d", s, q, e)
		}
	}
}

// P1.8: ParseSquare and PrintSquare undo each other.
func TestSquareTexts(t *testing.T) {
	for level := range api.MaxLevel + 1 {
		side := 1 << (api.MaxLevel - level)
		for x := 0; x < side; x += 1 + side/100 {
			for y := 0; y < side; y += 1 + side/77 {
				s := sq(level, x, y)
				text, e := places.PrintSquare(s)
				if want := fmt.Sprintf("%d:%d,%d", level, x, y); e != api.OK || text != want {
					t.Fatalf("PrintSquare(%v): %q, error %d", s, text, e)
				}
				if back, e := places.ParseSquare(text); e != api.OK || back != s {
					t.Fatalf("ParseSquare(%q): %v, error %d", text, back, e)
				}
			}
		}
	}
}

// P1.1 (L22, L23) and P1.8: PrintNight and ParseNight undo each other, for all nights.
func TestNightTexts(t *testing.T) {
	for night := range api.MaxDay + 1 {
		begin, end := calendar(night), calendar(night+1)
		want := begin.Format("2006-01-02/") + end.Format("02")
		if end.Year() != begin.Year() {
			want = begin.Format("2006-01-02/") + end.Format("2006-01-02")
		} else if end.Month() != begin.Month() {
			want = begin.Format("2006-01-02/") + end.Format("01-02")
		}
		text, e := places.PrintNight(night)
		if e != api.OK || text != want {
			t.Fatalf("PrintNight(%d): %q, error %d; want %q", night, text, e, want)
		}
		if back, e := places.ParseNight(text); e != api.OK || back != night {
			t.Fatalf("ParseNight(%q): %d, error %d; want %d", text, back, e, night)
		}
	}
}

// P1.1 (L22): the examples, and errors.
func TestPrintNight(t *testing.T) {
	for night, want := range map[int]string{0: "2000-01-01/02", 30: "2000-01-31/02-01", 58: "2000-02-28/29", 59: "2000-02-29/03-01", 365: "2000-12-31/2001-01-01", 424: "2001-02-28/03-01", api.MaxDay: "2273-10-15/16"} {
		if text, e := places.PrintNight(night); e != api.OK || text != want {
			t.Errorf("PrintNight(%d): %q, error %d", night, text, e)
		}
	}
	for _, night := range badNights() {
		if text, e := places.PrintNight(night); e != api.ErrArg || text != "" {
			t.Errorf("PrintNight(%d): %q, error %d", night, text, e)
		}
	}
}

// P1.1 (L23): texts of no night.
func TestParseNightErrors(t *testing.T) {
	for _, s := range []string{
		"", "/", "2000", "2000-01-01", "2000-01-01/", "/02", "--/", "2000-01/02", "2000-01-01-02", "2000/01/01-02", "2000-01-01/02/", "2000-01-01/02-", "2000-01-01/02 ", " 2000-01-01/02", "2000-01-01/02\n", "2000-01-01//02",
		"2000-1-01/02", "2000-01-1/02", "2000-01-01/2", "2000-01-01/002", "2000-001-01/02", "2000-01-001/02", "02000-01-01/02", "00-01-01/02", "0-01-01/02", "200-01-01/02", "+2000-01-01/02", "2000-01-01/+2", "2000-01--1/02", "2000-01-01/ 2", "２000-01-01/02", "2000–01-01/02",
		"2000-01-01/01", "2000-01-01/03", "2000-01-02/01", "2000-01-31/01", "2000-01-31/32", "2000-01-31/02-02", "2000-01-31/03-01", "2000-01-31/01-32", "2000-12-31/01-01", "2000-12-31/01", "2000-12-31/32", "2000-12-31/13-01", "2000-12-31/2001-01-02", "2000-12-31/2002-01-01", "2000-12-31/2000-01-01", "2000-12-31/2000-13-01",
		"2000-01-01/01-02", "2000-01-01/2000-01-02", "2000-01-31/2000-02-01", "2000-12-31/1-1-1", "2000-01-31/2-1", "2000-01-31/02-1", "2000-12-31/2001-1-01", "2000-12-31/2001-01-1", "2000-12-31/2001-01-01-01", "2000-12-31/2001-01",
		"2000-00-01/02", "2000-13-01/02", "2000-01-00/01", "2000-02-30/31", "2000-02-29/30", "2001-02-28/29", "2001-02-29/03-01", "2100-02-28/29", "2000-02-28/03-01", "2000-04-30/31", "2000-04-31/05-01",
		"1999-12-31/2000-01-01", "2273-10-16/17", "2273-10-31/11-01", "2273-12-31/2274-01-01", "2274-01-01/02", "9999-01-01/02", "10000-01-01/02", "18446744073709553616-01-01/02", "2000-01-18446744073709551617/02", "2000-01-01/18446744073709551618",
		strings.Repeat("0", 100000) + "2000-01-01/02", "2000-01-01/02" + strings.Repeat("0", 1000), "\xff", "2000-01-01\x00/02",
	} {
		if n, e := places.ParseNight(s); e != api.ErrText || n != 0 {
			t.Errorf("ParseNight(%.40q): %d, error %d", s, n, e)
		}
	}
}

// changed returns texts that differ from a text in one place.
func changed(text string) []string {
	out := []string{text}
	for i := range len(text) + 1 {
		for _, c := range []byte("0123459:,-/ +\x00\xff") {
			out = append(out, text[:i]+string([]byte{c})+text[i:])
			if i < len(text) {
				out = append(out, text[:i]+string([]byte{c})+text[i+1:])
			}
		}
		if i < len(text) {
			out = append(out, text[:i]+text[i+1:], text[:i], text[i:])
		}
	}
	return out
}

// P1.8: what is parsed has just this text; what is not parsed is ErrText.
func TestChangedTexts(t *testing.T) {
	squares := 0
	for _, s := range []api.Square{sq(3, 5, 2), sq(10, 0, 0), sq(0, 1023, 99), sq(1, 10, 500), sq(0, 0, 0), sq(9, 1, 1)} {
		text, _ := places.PrintSquare(s)
		for _, other := range changed(text) {
			q, e := places.ParseSquare(other)
			if back, _ := places.PrintSquare(q); e == api.OK && back != other || e != api.OK && (e != api.ErrText || q != (api.Square{})) {
				t.Errorf("ParseSquare(%q): %v, error %d", other, q, e)
			}
			if e == api.OK {
				squares++
			}
		}
	}
	nights := 0
	for _, night := range []int{0, 8, 9, 30, 58, 59, 90, 365, 366, 424, 3652, 36523, api.MaxDay} {
		text, _ := places.PrintNight(night)
		for _, other := range changed(text) {
			n, e := places.ParseNight(other)
			if back, _ := places.PrintNight(n); e == api.OK && back != other || e != api.OK && (e != api.ErrText || n != 0) {
				t.Errorf("ParseNight(%q): %d, error %d", other, n, e)
			}
			if e == api.OK {
				nights++
			}
		}
	}
	if squares < 20 || nights < 13 {
		t.Errorf("only %d squares and %d nights were parsed: this tests little", squares, nights)
	}
}
