package sheets_test

import (
	"math/rand/v2"
	"regexp"
	"strconv"
	"strings"
	"testing"

	"noctuary/api"
	"noctuary/sheets"
)

const (
	head       = "sheet 7 3 5 6 100 2 10 20\n"
	sampleText = head + "line 4 3 9\nline 8 5 5 3 1\nend\n"
)

// P4.1 (R4): the chapter's example, and the ends.
func TestPrint(t *testing.T) {
	texts := map[string]api.Sheet{
		sampleText:                       sample(),
		"sheet 1 0 0 0 0 1 0 0\nend\n":   leastSheet(),
		head + "line 4 3 9\nend\n":       sheet(span(10, 20), line(4, 3, 9, []int{}...)),
		head + "line 1 0 0 65535\nend\n": sheet(span(10, 20), line(1, 0, 0, 65535)),
		head + "end\n":                   sheet(span(10, 20)),
		"sheet 65535 273 1023 1022 99999 65534 99999 100000\nline 65533 0 100000\nline 9 10 100 1 20 300 4000 50000\nend\n": {
			Observer: 65535, Year: 273, Square: api.Square{X: 1023, Y: 1022}, Night: 99999, Lamp: 65534, Total: span(99999, 100000),
			Lines: []api.Line{line(65533, 0, 100000), line(9, 10, 100, 1, 20, 300, 4000, 50000)},
		},
	}
	for want, s := range texts {
		got, e := sheets.Print(s)
		wantSame(t, "Print", got, e, want)
		back, e, n := sheets.Parse(want)
		wantSheet(t, "Parse of "+want, back, e, s)
		if n != 0 {
			t.Errorf("Parse of %q: line %d", want, n)
		}
	}
}

// P4.1 (R4, R5): texts have at most MaxText bytes.
func TestTextLimit(t *testing.T) {
	full := sheetOfSize(api.MaxText)
	got, e := sheets.Print(full)
	if e != api.OK || got != write(full) || len(got) != api.MaxText {
		t.Errorf("Print of %d bytes: %d, error %d", api.MaxText, len(got), e)
	}
	back, e, n := sheets.Parse(got)
	if e != api.OK || n != 0 || !sameSheet(back, full) {
		t.Errorf("Parse of %d bytes: error %d, line %d", api.MaxText, e, n)
	}
	above := sheetOfSize(api.MaxText + 1)
	wantError(t, "Print of too much", text(sheets.Print(above)), api.ErrLimit)
	wantError(t, "Print of the greatest", text(sheets.Print(greatestSheet())), api.ErrLimit)
	for what, s := range map[string]string{"a sheet": write(above), "the greatest": write(greatestSheet()), "no sheet": strings.Repeat("x", api.MaxText+1), "no lines": strings.Repeat("\n", api.MaxText+1)} {
		wantFault(t, what, s, api.ErrLimit, 0)
	}
	wantFault(t, "no sheet", strings.Repeat("x", api.MaxText), api.ErrForm, 1)
	lines := strings.Repeat("line 1 0 0\n", 3)
	filler := "line 1 0 0" + strings.Repeat(" ", api.MaxText-len(head)-len(lines)-11) + "\n"
	wantFault(t, "blanks", head+lines+filler, api.ErrForm, 5)
	withoutEnd := strings.TrimSuffix(write(sheetOfSize(api.MaxText+4)), "end\n")
	wantFault(t, "a text that has no room for its end", withoutEnd, api.ErrForm, 202)
}

// sheetOfSize returns a sheet of MaxLines lines whose text has a number of bytes.
func sheetOfSize(size int) api.Sheet {
	s := sheet(span(0, 0))
	for range api.MaxLines {
		s.Lines = append(s.Lines, line(1, 0, 0))
	}
	missing := size - len(write(s))
	for i := 0; missing > 0; i++ {
		width := min(6, missing) // of a blank and a number
		if missing-width == 1 {
			width--
		}
		number, _ := strconv.Atoi("1" + strings.Repeat("0", width-2))
		l := &s.Lines[i%api.MaxLines]
		l.Seen = append(l.Seen, number)
		missing -= width
	}
	return s
}

// write returns the text of a sheet.
func write(s api.Sheet) string {
	lines := [][]int{{s.Observer, s.Year, s.Square.X, s.Square.Y, s.Night, s.Lamp, s.Total.Lo, s.Total.Hi}}
	for _, l := range s.Lines {
		lines = append(lines, append([]int{l.Name, l.Count.Lo, l.Count.Hi}, l.Seen...))
	}
	var b strings.Builder
	for i, numbers := range lines {
		if i == 0 {
			b.WriteString("sheet")
		} else {
			b.WriteString("line")
		}
		for _, n := range numbers {
			b.WriteString(" " + strconv.Itoa(n))
		}
		b.WriteString("\n")
	}
	return b.String() + "end\n"
}

// wantFault checks what Parse tells of a text that is none, and that it returns no sheet.
func wantFault(t *testing.T, what, s string, want api.Errno, line int) {
	t.Helper()
	got, e, n := sheets.Parse(s)
	if e != want || n != line || !sameSheet(got, api.Sheet{}) {
		t.Errorf("Parse of %s: error %d, line %d, %v; want error %d, line %d", what, e, n, short(got), want, line)
	}
}

// short keeps messages readable.
func short(s api.Sheet) api.Sheet {
	s.Lines = s.Lines[:min(len(s.Lines), 3)]
	return s
}

// P4.1 (R5): the first line that is wrong, or unended, or missing.
func TestParseOfBadTexts(t *testing.T) {
	two := head + "line 4 3 9\n"
	cases := map[string]int{
		head + "line 4 3 9\nline 8 5 5 3 1\n":           4,
		sampleText[:len(sampleText)-1] + " \n":          4,
		head + "line 4 3 9\nline 8 05 5\nend\n":         3,
		"":                                              1,
		"\n":                                            1,
		" ":                                             1,
		head:                                            2,
		head[:len(head)-1]:                              1,
		two:                                             3,
		two[:len(two)-1]:                                2,
		two + "end":                                     3,
		two + "en":                                      3,
		two + "line 8 5 5":                              3,
		sampleText + "x":                                5,
		sampleText + "\n":                               5,
		sampleText + "end\n":                            5,
		sampleText + "line 4 3 9\n":                     5,
		sampleText + sampleText:                         5,
		"end\n":                                         1,
		"line 4 3 9\nend\n":                             1,
		head + head + "end\n":                           2,
		head + "\nend\n":                                2,
		"\n" + sampleText:                               1,
		head + "lines 4 3 9\nend\n":                     2,
		head + "Line 4 3 9\nend\n":                      2,
		head + "line 4 3\nend\n":                        2,
		head + "line 4\nend\n":                          2,
		head + "line\nend\n":                            2,
		head + "line \nend\n":                           2,
		head + "line 4 3 9 \nend\n":                     2,
		head + " line 4 3 9\nend\n":                     2,
		head + "line  4 3 9\nend\n":                     2,
		head + "line 4  3 9\nend\n":                     2,
		head + "line 4 3 9  1\nend\n":                   2,
		head + "line 4\t3 9\nend\n":                     2,
		head + "line 4 3 9\r\nend\n":                    2,
		head + "line 4,3,9\nend\n":                      2,
		head + "line +4 3 9\nend\n":                     2,
		head + "line -4 3 9\nend\n":                     2,
		head + "line 4 -3 9\nend\n":                     2,
		head + "line 4 -0 9\nend\n":                     2,
		head + "line 4 00 9\nend\n":                     2,
		head + "line 04 3 9\nend\n":                     2,
		head + "line 0x4 3 9\nend\n":                    2,
		head + "line 4_0 3 9\nend\n":                    2,
		head + "line 4.0 3 9\nend\n":                    2,
		head + "line x 3 9\nend\n":                      2,
		head + "line 4 3 2\nend\n":                      2,
		head + "line 0 3 9\nend\n":                      2,
		head + "line 65536 3 9\nend\n":                  2,
		head + "line 4 3 100001\nend\n":                 2,
		head + "line 4 3 9 0\nend\n":                    2,
		head + "line 4 3 9 1 65536\nend\n":              2,
		head + "line 4 3 9 01\nend\n":                   2,
		head + "line 4 3 9 x\nend\n":                    2,
		head + "line 4 0 9223372036854775808\nend\n":    2,
		head + "line 18446744073709551620 3 9\nend\n":   2,
		head + "line 4 3 9 18446744073709551617\nend\n": 2,
		head + "line 4 3 9\x00\nend\n":                  2,
		head + "line 4 3 \u0669\nend\n":                 2,
		head + "end \nend\n":                            2,
		head + "ends\n":                                 2,
		head + "End\n":                                  2,
		head + "end 1\n":                                2,
		head + "line 4 3 9\nx\nline 0 0 0\n":            3,
		"sheet 7 3 5 6 100 2 10\nend\n":                 1,
		"sheet 7 3 5 6 100 2 10 20 0\nend\n":            1,
		"sheet 7 3 5 6 100 2 10 20 \nend\n":             1,
		"sheet  7 3 5 6 100 2 10 20\nend\n":             1,
		"sheet\nend\n":                                  1,
		"sheets 7 3 5 6 100 2 10 20\nend\n":             1,
		"7 3 5 6 100 2 10 20 1\nend\n":                  1,
		"sheet 7 3 5 6 100 2 10 020\nend\n":             1,
		"sheet 7 3 5 6 100 2 11 10\nend\n":              1,
		"sheet 7 3 5 6 100 2 0 100001\nend\n":           1,
		"sheet 7 274 5 6 100 2 10 20\nend\n":            1,
		"sheet 0 3 5 6 100 2 10 20\nend\n":              1,
		"sheet 7 3 1024 6 100 2 10 20\nend\n":           1,
		"sheet 7 3 5 1024 100 2 10 20\nend\n":           1,
		"sheet 7 3 5 6 100000 2 10 20\nend\n":           1,
		"sheet 7 3 5 6 100 0 10 20\nend\n":              1,
	}
	for s, want := range cases {
		wantFault(t, strconv.Quote(s), s, api.ErrForm, want)
	}
}

// P4.1 (R5): as many lines, and as much of what was seen, as there may be, and one more.
func TestParseOfManyLines(t *testing.T) {
	lines := strings.Repeat("line 1 0 0\n", api.MaxLines)
	s, e, n := sheets.Parse(head + lines + "end\n")
	if e != api.OK || n != 0 || len(s.Lines) != api.MaxLines {
		t.Errorf("Parse of as many lines as may be: error %d, line %d", e, n)
	}
	wantFault(t, "lines without an end", head+lines, api.ErrForm, 202)
	wantFault(t, "a line more", head+lines+"line 1 0 0\nend\n", api.ErrForm, 202)
	wantFault(t, "many lines more", head+lines+lines+"end\n", api.ErrForm, 202)
	seen := "line 1 0 0" + strings.Repeat(" 1", api.MaxChars)
	s, e, n = sheets.Parse(head + seen + "\nend\n")
	if e != api.OK || n != 0 || len(s.Lines) != 1 || len(s.Lines[0].Seen) != api.MaxChars {
		t.Errorf("Parse of as much seen as may be: error %d, line %d", e, n)
	}
	wantFault(t, "a number more", head+seen+" 1\nend\n", api.ErrForm, 2)
}

var (
	headForm = regexp.MustCompile(`^sheet( (0|[1-9][0-9]*)){8}\n$`)
	lineForm = regexp.MustCompile(`^line( (0|[1-9][0-9]*)){3,}\n$`)
)

// fault returns the number that Parse must tell of a text that is not too long, by the forms of the lines; 0, if it is that of a valid sheet.
func fault(s string) int {
	lines := strings.SplitAfter(s, "\n")
	if lines[len(lines)-1] == "" {
		lines = lines[:len(lines)-1]
	}
	for k, l := range lines {
		stands := k > 0 && (l == "end\n" || k <= api.MaxLines && isLine(l))
		if k == 0 {
			stands = isHead(l)
		}
		if !stands || k > 0 && lines[k-1] == "end\n" {
			return k + 1
		}
	}
	if len(lines) == 0 || lines[len(lines)-1] != "end\n" {
		return len(lines) + 1
	}
	return 0
}

func isHead(l string) bool {
	id, side, count := bound{1, 65535}, bound{0, 1023}, bound{0, 100000}
	return headForm.MatchString(l) && inBounds(l, id, bound{0, 273}, side, side, bound{0, 99999}, id, count, count) && rising(l, 7)
}

func isLine(l string) bool {
	id, count := bound{1, 65535}, bound{0, 100000}
	return lineForm.MatchString(l) && inBounds(l, id, count, count) && rising(l, 2)
}

// bound is the least and the greatest number that may stand somewhere.
type bound struct{ least, most int }

// inBounds reports whether the numbers of a line are within some bounds, those behind them within those of what was seen, and not too many.
func inBounds(l string, bounds ...bound) bool {
	numbers := strings.Fields(l)[1:]
	if len(numbers) > len(bounds)+64 {
		return false
	}
	for i, field := range numbers {
		n, err := strconv.Atoi(field)
		b := bound{1, 65535}
		if i < len(bounds) {
			b = bounds[i]
		}
		if err != nil || n < b.least || n > b.most {
			return false
		}
	}
	return true
}

// rising reports whether the number at an index of a line is not less than the one ahead of it.
func rising(l string, i int) bool {
	numbers := strings.Fields(l)[1:]
	a, _ := strconv.Atoi(numbers[i-1])
	b, _ := strconv.Atoi(numbers[i])
	return a <= b
}

// broken returns a text after some small changes, which may leave it right.
func broken(r *rand.Rand, s string) string {
	const bytes = "\n\n  0123456789-+x\r"
	for range 1 + r.IntN(2) {
		at, c := r.IntN(len(s)), string(bytes[r.IntN(len(bytes))])
		lines := strings.SplitAfter(s, "\n")
		k, j := r.IntN(len(lines)), r.IntN(len(lines))
		switch r.IntN(7) {
		case 0:
			s = s[:at] + s[at+1:]
		case 1:
			s = s[:at] + c + s[at:]
		case 2:
			s = s[:at] + c + s[at+1:]
		case 3:
			lines[k], lines[j] = lines[j], lines[k]
			s = strings.Join(lines, "")
		case 4:
			s = strings.Join(append(lines[:k:k], lines[k+1:]...), "")
		case 5:
			lines[k] += lines[j]
			s = strings.Join(lines, "")
		case 6:
			s = s[:at]
		}
		if s == "" {
			return s
		}
	}
	return s
}

// eachBrokenText calls a test with many texts that may be wrong.
func eachBrokenText(t *testing.T, do func(r *rand.Rand, s string)) {
	t.Helper()
	r := random()
	for i := range 6000 {
		s := write(someSheet(r))
		if i%4 == 0 {
			s = write(smallSheet(r))
		}
		do(r, broken(r, s))
		if t.Failed() {
			return
		}
	}
}

// P4.1 (R5), P4.2: by the forms of the lines; what Parse returns has the text.
func TestParseByForms(t *testing.T) {
	right := 0
	eachBrokenText(t, func(_ *rand.Rand, s string) {
		if n := fault(s); n != 0 {
			wantFault(t, strconv.Quote(s), s, api.ErrForm, n)
			return
		}
		right++
		got, e, n := sheets.Parse(s)
		if e != api.OK || n != 0 || write(got) != s {
			t.Errorf("Parse of %q: %v, error %d, line %d", s, got, e, n)
		}
		back, e := sheets.Print(got)
		wantSame(t, "Print of Parse", back, e, s)
	})
	if right < 200 || right > 4000 {
		t.Errorf("%d texts were right", right)
	}
}

// P4.2: Parse of what Print returns is the sheet.
func TestParseOfPrint(t *testing.T) {
	r := random()
	for range 500 {
		s := someSheet(r)
		written, e := sheets.Print(s)
		wantSame(t, "Print", written, e, write(s))
		back, e, _ := sheets.Parse(written)
		wantSheet(t, "Parse of Print", back, e, s)
	}
}

// P4.2: the first wrong line does not depend on what follows behind it, if it is ended.
func TestFirstWrongLine(t *testing.T) {
	ended := 0
	eachBrokenText(t, func(r *rand.Rand, s string) {
		_, e, n := sheets.Parse(s)
		lines := strings.SplitAfter(s, "\n")
		if e != api.ErrForm || n > len(lines) || !strings.HasSuffix(lines[n-1], "\n") {
			return
		}
		ended++
		ahead := strings.Join(lines[:n], "")
		for _, behind := range []string{"", "end\n", "x", "\n", sampleText, broken(r, sampleText), strings.Repeat("line 1 0 0\n", 300)} {
			wantFault(t, strconv.Quote(ahead+behind), ahead+behind, api.ErrForm, n)
		}
	})
	if ended < 1000 {
		t.Errorf("only %d texts had a wrong line that was ended", ended)
	}
}

// P4.1 (R5): lists of what Parse returns share no memory (R7).
func TestMemoryOfParse(t *testing.T) {
	const text = head + "line 1 0 0 1 2 3\nline 2 0 0 4 5 6\nend\n"
	s, _, _ := sheets.Parse(text)
	again, _, _ := sheets.Parse(text)
	first := s.Lines[0].Seen
	for i := range first {
		first[i] = -7
	}
	_ = append(first, -7)
	if !sameLine(s.Lines[1], line(2, 0, 0, 4, 5, 6)) || !sameLine(again.Lines[0], line(1, 0, 0, 1, 2, 3)) {
		t.Errorf("lines share memory: %v, %v", s, again)
	}
}
