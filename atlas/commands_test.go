package atlas_test

import (
	"slices"
	"strings"
	"testing"

	"noctuary/api"
	"noctuary/atlas"
)

// P10.1 (A16, A17): lines and their commands.
func TestParseAndPrint(t *testing.T) {
	for line, right := range map[string]api.Command{
		"a":                            {Word: "a"},
		"zyx":                          {Word: "zyx"},
		"lamp 1 125":                   {Word: "lamp", Args: []int{1, 125}},
		"x 0 -1 10 -10":                {Word: "x", Args: []int{0, -1, 10, -10}},
		"x 1000000000 -1000000000":     {Word: "x", Args: []int{1000000000, -1000000000}},
		"x" + strings.Repeat(" 7", 64): {Word: "x", Args: slices.Repeat([]int{7}, 64)},
	} {
		c, e := atlas.Parse(line)
		want(t, "Parse of "+line, c, e, right)
		s, e := atlas.Print(right)
		want(t, "Print", s, e, line)
	}
}

// P10.1 (A16): lines that are no commands.
func TestParseOfNoCommands(t *testing.T) {
	for _, line := range []string{
		"", " ", "1", " a", "a ", "a  1", "a 1 ", "a\t1", "a\n", "a 1\n", "a\r", "A", "aB", "a1", "a-b", "a.", "é", "`", "{", "a{", "a 1,2", "a b", "a 1 b",
		"a 01", "a 00", "a -0", "a -01", "a +1", "a --1", "a -", "a 1-", "a 1.0", "a 1e3", "a 0x1", "a 1_000", "a ١", "a \x00", "\xff",
		"a 1000000001", "a -1000000001", "a 10000000000000000000000", "a -9223372036854775808", "a 18446744073709551617",
		"a" + strings.Repeat(" 7", 65),
	} {
		c, e := atlas.Parse(line)
		wantError(t, "Parse of "+line, c, e, api.ErrCommand)
	}
}

// P10.1 (A17): commands that have no line.
func TestPrintOfNoCommands(t *testing.T) {
	for _, c := range []api.Command{
		{}, {Args: []int{1}}, {Word: " "}, {Word: "a "}, {Word: " a"}, {Word: "a 1"}, {Word: "A"}, {Word: "a1"}, {Word: "a\n"}, {Word: "é"}, {Word: "a\xff"},
		{Word: "a", Args: []int{1, 1000000001}}, {Word: "a", Args: []int{-1000000001}}, {Word: "a", Args: []int{huge}}, {Word: "a", Args: []int{-huge - 1}},
		{Word: "a", Args: make([]int, 65)},
	} {
		s, e := atlas.Print(c)
		wantError(t, "Print of "+text(c), s, e, api.ErrCommand)
	}
}

// P10.1 (A16, A17): each line that is short, and of few characters, is a command if and only if it is what Print makes of it.
func TestShortLines(t *testing.T) {
	lines := []string{""}
	count := 0
	for range 5 {
		var longer []string
		for _, s := range lines {
			for _, x := range []string{"a", "z", " ", "0", "1", "-"} {
				longer = append(longer, s+x)
			}
		}
		lines = longer
		for _, line := range lines {
			c, e := atlas.Parse(line)
			if e != api.OK {
				wantError(t, "Parse of "+line, c, e, api.ErrCommand)
				continue
			}
			count++
			s, e := atlas.Print(c)
			want(t, "Print of Parse", s, e, line)
		}
	}
	if right := wordsOf(1, 5); count != right {
		t.Errorf("%d lines are commands; want %d", count, right)
	}
}

// wordsOf returns how many commands there are of the letters a and z and of the digits 0 and 1, in lines of least to most characters.
func wordsOf(least, most int) int {
	// tails[n] is how many ways there are to go on for n characters with a blank and a number, again and again.
	tails := []int{1}
	for n := 1; n <= most; n++ {
		sum := 0
		for k := 2; k <= n; k++ { // a blank, and a number of k - 1 characters
			sum += numbersOfLength(k-1) * tails[n-k]
		}
		tails = append(tails, sum)
	}
	count := 0
	for n := least; n <= most; n++ {
		for letters := 1; letters <= n; letters++ {
			count += 1 << letters * tails[n-letters]
		}
	}
	return count
}

// numbersOfLength returns how many numbers of the digits 0 and 1 have a length.
func numbersOfLength(n int) int {
	switch n {
	case 1:
		return 2 // 0 and 1
	case 2:
		return 3 // 10, 11 and -1
	}
	return 1<<(n-1) + 1<<(n-2) // those that begin with 1, and with -1
}
