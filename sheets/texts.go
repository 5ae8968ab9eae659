package sheets

import (
	"iter"
	"strconv"
	"strings"

	"noctuary/api"
)

// The words with which the lines of a text begin.
const (
	headWord = "sheet"
	lineWord = "line"
	endWord  = "end"
)

// Print returns a sheet as a text.
func Print(s api.Sheet) (string, api.Errno) {
	if !isValid(s) {
		return "", api.ErrSheet
	}
	text := writeLine(nil, headWord, s.Observer, s.Year, s.Square.X, s.Square.Y, s.Night, s.Lamp, s.Total.Lo, s.Total.Hi)
	for _, l := range s.Lines {
		fields := append([]int{l.Name, l.Count.Lo, l.Count.Hi}, l.Seen...)
		text = writeLine(text, lineWord, fields...)
	}
	text = writeLine(text, endWord)
	if len(text) > api.MaxText {
		return "", api.ErrLimit
	}
	return string(text), api.OK
}

// Parse returns the sheet of a text, or the first line that is wrong.
func Parse(s string) (api.Sheet, api.Errno, int) {
	if len(s) > api.MaxText {
		return api.Sheet{}, api.ErrLimit, 0
	}
	var r reader
	for line, ended := range linesOf(s) {
		if !ended || !r.take(line) {
			return api.Sheet{}, api.ErrForm, r.taken + 1
		}
	}
	if !r.done {
		return api.Sheet{}, api.ErrForm, r.taken + 1
	}
	return r.sheet, api.OK, 0
}

// writeLine adds a line to a text.
func writeLine(text []byte, word string, numbers ...int) []byte {
	text = append(text, word...)
	for _, n := range numbers {
		text = append(text, ' ')
		text = strconv.AppendInt(text, int64(n), 10)
	}
	return append(text, '\n')
}

// linesOf yields the lines of a text without their line feeds, each with whether it is ended.
func linesOf(text string) iter.Seq2[string, bool] {
	return func(yield func(line string, ended bool) bool) {
		for left := text; left != ""; {
			line, behind, ended := strings.Cut(left, "\n")
			if !yield(line, ended) {
				return
			}
			left = behind
		}
	}
}

// reader is a sheet as far as its text was read.
type reader struct {
	sheet api.Sheet
	taken int  // lines of the text
	done  bool // the end was read
}

// take reads a further line of the text, if it can stand there.
func (r *reader) take(line string) bool {
	fields := strings.Split(line, " ")
	can := false
	switch {
	case r.done:
	case r.taken == 0:
		can = r.takeHead(fields)
	case line == endWord:
		r.done, can = true, true
	default:
		can = r.takeLine(fields)
	}
	if can {
		r.taken++
	}
	return can
}

func (r *reader) takeHead(fields []string) bool {
	s := &r.sheet
	left, can := readFields(fields, headWord, &s.Observer, &s.Year, &s.Square.X, &s.Square.Y, &s.Night, &s.Lamp, &s.Total.Lo, &s.Total.Hi)
	return can && len(left) == 0 && faultOf(*s) == noFault
}

func (r *reader) takeLine(fields []string) bool {
	var l api.Line
	left, can := readFields(fields, lineWord, &l.Name, &l.Count.Lo, &l.Count.Hi)
	if !can || len(r.sheet.Lines) == api.MaxLines {
		return false
	}
	for _, field := range left {
		set, can := readNumber(field)
		if !can {
			return false
		}
		l.Seen = append(l.Seen, set)
	}
	r.sheet.Lines = append(r.sheet.Lines, l)
	return isLine(l)
}

// readFields reads numbers behind a word, one into each of some variables, and returns the fields behind them.
func readFields(fields []string, word string, into ...*int) (left []string, can bool) {
	if fields[0] != word || len(fields) <= len(into) {
		return nil, false
	}
	for i, to := range into {
		n, can := readNumber(fields[1+i])
		if !can {
			return nil, false
		}
		*to = n
	}
	return fields[1+len(into):], true
}

// readNumber reads a number, if it is written as Print writes it.
func readNumber(field string) (int, bool) {
	n, err := strconv.Atoi(field)
	if err != nil || strconv.Itoa(n) != field {
		return 0, false
	}
	return n, true
}
