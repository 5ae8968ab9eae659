package atlas_test

import (
	"slices"
	"strings"
	"testing"

	"noctuary/api"
	"noctuary/atlas"
)

// sampleBeginning describes the sample's base.
const sampleBeginning = `
names 1 2 5 9 > ok
change 5 1 1 3 4 > ok
chars 2 3 > ok
row 3 1 7 > ok
row 4 2 7 > ok
rule 2 401 930 50 0 30 30 2 0 0 > ok
rule 5 1101 229 0 > ok
lamp 3 125 > ok
lamp 8 15 > ok
county 0 9 9 2 0 0 > ok
licence 2 1 1 > ok
licence 9 0 18 > ok
begin 2 > ok
`

// sampleNotes are those that amount to the sample's register.
const sampleNotes = `
sheet 1 100 1 0 1 0 9 3 10 10 1 4 6 > ok 1
sheet 1 101 1 0 2 3 12 3 0 20 2 2 2 1 1 1 > ok 2
voucher 1 102 1 2 1 3 7 > ok 3
voucher 1 102 1 2 1 1 6 > ok 4
sheet 1 103 2 0 30 30 20 8 0 5 2 1 3 > ok 5
call 1 104 1 5 0 5 > ok 6
sheet 1 105 1 0 3 3 7 3 1 1 9 1 1 > ok 7
accept 1 106 1 2 0 > ok 8
series 1 107 1 2 0 3 30 2 1 5 > ok 9
`

// wantReplies runs a script, of which each line is given with what is printed for it, behind >.
func wantReplies(t *testing.T, what string, dialogues ...string) {
	t.Helper()
	var script, right []string
	for _, line := range strings.Split(strings.Join(dialogues, ""), "\n") {
		if said, reply, found := strings.Cut(line, " > "); found {
			script, right = append(script, said), append(right, reply)
		}
	}
	got := strings.Split(string(atlas.Run([]byte(strings.Join(script, "\n")+"\n"))), "\n")
	if len(got) != len(right)+1 || got[len(right)] != "" {
		t.Fatalf("%s: %d lines are printed for %d", what, len(got)-1, len(right))
	}
	for i, reply := range right {
		if got[i] != reply {
			t.Errorf("%s: line %d, %q, gives %q; want %q", what, i+1, script[i], got[i], reply)
		}
	}
}

// P10.1 (A18): lines, empty ones, and those that are no commands.
func TestLines(t *testing.T) {
	for script, right := range map[string]string{
		"":                       "",
		"\n":                     "\n",
		"\n\n":                   "\n\n",
		"lamp 1 125":             "ok\n",
		"lamp 1 125\n":           "ok\n",
		"lamp 1 125\n\n":         "ok\n\n",
		"\nlamp 1 125\n\nlamp":   "\nok\n\nerror 103\n",
		"begin 1\nlamp 1 125":    "error 100\nok\n",
		"lamp 1 125\r\n":         "error 103\n",
		" \nlamp  1 125\nLAMP 1": "error 103\nerror 103\nerror 103\n",
		"lamps 1 125\nx":         "error 103\nerror 103\n",
		"names" + strings.Repeat(" 1", 64) + "\nnames" + strings.Repeat(" 1", 65): "ok\nerror 103\n",
		"\xff\n\x00": "error 103\nerror 103\n",
	} {
		wantSame(t, "Run of "+script, string(atlas.Run([]byte(script))), right)
	}
}

// P10.1 (A18): the greatest scripts, and those that are too great.
func TestGreatScripts(t *testing.T) {
	for what, c := range map[string]struct{ script, right string }{
		"65537 bytes":            {strings.Repeat("\n", 65537), "error 2\n"},
		"65536 bytes":            {"lamp 1 2\n" + strings.Repeat("x", 65527), "ok\nerror 103\n"},
		"65536 line feeds":       {strings.Repeat("\n", 65536), strings.Repeat("\n", 400)},
		"400 lines":              {strings.Repeat("lamp 1 2\n", 400), strings.Repeat("ok\n", 400)},
		"400 lines, one unended": {strings.Repeat("lamp 1 2\n", 399) + "x", strings.Repeat("ok\n", 399) + "error 103\n"},
		"401 lines":              {strings.Repeat("lamp 1 2\n", 400) + "x", strings.Repeat("ok\n", 400)},
		"empty lines ahead":      {strings.Repeat("\n", 399) + "x\nx\n", strings.Repeat("\n", 399) + "error 103\n"},
	} {
		if got := string(atlas.Run([]byte(c.script))); got != c.right {
			t.Errorf("Run of %s: %d bytes; want %d", what, len(got), len(c.right))
		}
	}
}

// argsOf tells how many Args the words of both kinds of tables may have.
func argsOf() (ahead, behind map[string]func(n int) bool) {
	exactly := func(k int) func(n int) bool { return func(n int) bool { return n == k } }
	from := func(k int) func(n int) bool { return func(n int) bool { return n >= k } }
	threes := func(k int) func(n int) bool { return func(n int) bool { return n >= k && n%3 == k%3 } }
	ahead = map[string]func(n int) bool{
		"names": from(0), "change": from(2), "chars": from(0), "row": from(1), "lamp": exactly(2), "rule": threes(4), "county": threes(0), "licence": exactly(3), "begin": exactly(1),
	}
	behind = map[string]func(n int) bool{
		"sheet": threes(10), "accept": exactly(5), "query": exactly(5), "reject": exactly(5), "call": from(5), "voucher": from(5), "list": from(4), "series": exactly(10), "undo": exactly(4),
		"sync": exactly(1), "post": exactly(2), "deliver": exactly(1), "lose": exactly(1), "double": exactly(1), "crash": exactly(4), "settle": exactly(0),
		"current": exactly(1), "count": exactly(2), "first": exactly(2), "last": exactly(2), "sure": exactly(2), "may": exactly(2), "known": exactly(4), "clash": exactly(1), "conflicts": exactly(1), "atlas": exactly(1),
		"check": exactly(0), "dots": exactly(1), "told": exactly(4), "rich": exactly(0),
	}
	return ahead, behind
}

// P10.1 (The console): numbers of Args that are wrong, ahead of commands that come too early or too late.
func TestNumbersOfArgs(t *testing.T) {
	ahead, behind := argsOf()
	begun := strings.ReplaceAll(sampleBeginning, " > ok", "")[1:]
	for n := range api.MaxArgs + 1 {
		var early, late []string
		var wantEarly, wantLate []string
		add := func(words map[string]func(n int) bool, lines, replies *[]string) {
			for word, takes := range words {
				*lines = append(*lines, word+strings.Repeat(" 0", n))
				if takes(n) {
					*replies = append(*replies, "error 104")
				} else {
					*replies = append(*replies, "error 103")
				}
			}
		}
		add(behind, &early, &wantEarly)
		add(ahead, &late, &wantLate)
		got := string(atlas.Run([]byte(strings.Join(early, "\n"))))
		wantSame(t, text(early), got, strings.Join(wantEarly, "\n")+"\n")
		got = string(atlas.Run([]byte(begun + strings.Join(late, "\n"))))
		wantSame(t, text(late), got, strings.Repeat("ok\n", 13)+strings.Join(wantLate, "\n")+"\n")
	}
}

// P10.1 (The console): with numbers of Args that are right, a command that does not come too early or too late gives another reply; and none of the words are missing.
func TestRightArgs(t *testing.T) {
	ahead, behind := argsOf()
	begun := strings.ReplaceAll(sampleBeginning, " > ok", "")[1:]
	for word, takes := range ahead {
		for n := range 14 {
			reply := string(atlas.Run([]byte(word + strings.Repeat(" 0", n))))
			if is := reply == "error 103\n" || reply == "error 104\n"; is == takes(n) {
				t.Errorf("%s with %d Args ahead of begin gives %q", word, n, reply)
			}
		}
	}
	for word, takes := range behind {
		for n := range 14 {
			replies := strings.Split(string(atlas.Run([]byte(begun+"atlas 1\n"+word+strings.Repeat(" 0", n)))), "\n")
			if reply := replies[14]; (reply == "error 103" || reply == "error 104") == takes(n) {
				t.Errorf("%s with %d Args behind begin gives %q", word, n, reply)
			}
		}
	}
}

// P10.1 (The console): the table ahead of begin.
func TestBeginnings(t *testing.T) {
	wantReplies(t, "a beginning", `
settle > error 104
begin 1 > error 100
change 5 -1 1 > error 1
change 5 2 1 > error 1
change 5 0 > ok
begin 1 > error 100
`)
	rest := strings.TrimPrefix(sampleBeginning, "\n")
	wantReplies(t, "another First", "names 7 7 > ok\nbegin 2 > error 100\n", rest, "begin 2 > error 104\nnames 1 > error 104\ncurrent 1 > current 2 3 4 5 9\n")
	for _, wrong := range []string{
		"change 4 1 2 6 > ok\n",          // ahead of its time
		"row 4 1 1 > ok\n",               // twice
		"rule 5 101 102 3 > ok\n",        // twice
		"rule 0 101 102 3 > ok\n",        // no name
		"rule 4 1231 101 0 > ok\n",       // in disorder
		"rule 6 1301 102 3 > ok\n",       // no season
		"rule 6 101 102 -1 > ok\n",       // no count
		"rule 6 101 102 100001 > ok\n",   // no count either
		"lamp 9 0 > ok\n",                // no power
		"lamp 9 10001 > ok\n",            // no power either
		"lamp 65536 9 > ok\n",            // no lamp
		"rule 6 101 1 3 > ok\n",          // no season
		"rule 6 101 102 3 11 0 0 > ok\n", // no square
		"lamp 8 15 > ok\n",               // twice
		"licence 9 0 1 > ok\n",           // twice
		"licence 10 11 1 > ok\n",         // no level
		"county 2 0 0 0 9 9 > ok\n",      // no region
		"chars 2 3 2 > ok\n",             // the rows have two
		"names 1 2 5 9 3 > ok\n",         // in disorder
		"change 9 0 6 > ok\n",            // from nothing
		"change 9 1 2 > ok\n",            // to nothing
		"row 5 8 1 > ok\n",               // no such state
		"names > ok\n", "chars > ok\n",   // nothing at all
		"county 0 0 -1 > ok\n",                // no square
		"names 1 2 5 65535 1000000000 > ok\n", // no name
	} {
		head, _, _ := strings.Cut(rest, "begin 2")
		wantReplies(t, "a base that is not valid", head, wrong, "begin 2 > error 100\nbegin 2 > error 100\n")
	}
	for _, houses := range []string{"0", "9", "-1", "1000000000"} {
		head, _, _ := strings.Cut(rest, "begin 2")
		wantReplies(t, "another number of houses", head, "begin "+houses+" > error 100\nbegin 8 > ok\nsync 8 > ok\nsync 9 > error 1\n")
	}
}

// P10.1 (The console): a base that is as described: what its parts bring about.
func TestParts(t *testing.T) {
	wantReplies(t, "the parts of a base", `
names 1 2 > ok
names 1 2 5 > ok
county 3 0 0 > ok
county > ok
chars 2 > ok
chars 16 2 > ok
row 2 65535 1 > ok
row 7 1 2 > ok
lamp 9 10000 > ok
lamp 65535 1 > ok
rule 1 1231 101 100000 > ok
rule 65535 229 229 0 10 0 0 > ok
licence 2 10 1048576 > ok
licence 65535 0 1 > ok
change 1 1 1 6 7 > ok
change 9 2 2 6 2 > ok
begin 1 > ok
sheet 1 0 65535 0 1023 1023 99999 9 0 100000 1 1 100000 2 0 0 5 3 3 > ok 1
voucher 1 0 1 1 0 65535 2 > ok 2
current 1 > current 2 5 7
count 1 7 > count 1 99997
voucher 1 0 1 1 1 65536 1 > error 60
undo 1 0 1 2 > ok 3
voucher 1 0 1 1 0 65535 1 > ok 4
count 1 7 > count 0 0
count 1 2 > count 1 99997
first 1 2 > first 99999 99999
sure 1 2 > sure 0 1023 1023
atlas 1 > atlas 0 3 0 2
`)
}

// P10.1 (The console): the sample, note by note, and what is asked of it.
func TestSampleScript(t *testing.T) {
	wantReplies(t, "the sample", sampleBeginning, "check > error 104\ndots 2 > error 104\ntold 2 1 1 1 > error 104\nrich > error 104\ncount 1 3 > count 0 0\n", sampleNotes, `
current 1 > current 2 3 4 5 9
count 1 2 > count 2 2
count 1 3 > count 1 7
count 1 4 > count 0 6
count 1 1 > error 3
count 3 3 > error 3
first 1 3 > first 9 12
first 1 4 > first 9 -1
first 1 77 > error 3
last 1 3 > last 12 12
last 1 4 > last -1 9
last 0 4 > error 3
sure 1 3 > sure 0 2 3
sure 1 4 > sure
sure -1 4 > error 3
may 1 3 > may 0 1 0 0 2 3
may 1 2 > may 0 2 3
may 1 -2 > error 3
conflicts 1 > conflicts
conflicts 3 > error 3
clash 1 > error 3
clash 3 > error 3
current 3 > error 3
atlas 3 > error 3
check > error 104
atlas 1 > atlas 0 5 2 2
check > faults
dots 2 > dots 1 1 1
dots 3 > dots 0 2 3
dots 5 > error 3
dots 0 > error 3
told 2 1 1 1 > told 1
told 2 2 0 0 > told 1
told 2 0 2 3 > told 0
told 2 1 0 0 > told 0
told 3 0 2 3 > told 1
told 77 0 2 3 > told 0
told 0 0 2 3 > error 1
told 3 0 1024 3 > error 10
rich > rich 4 5
count 2 3 > count 0 0
current 2 > current 2 3 4 5 9
atlas 2 > atlas 0 5 0 0
rich > rich 0 0
dots 2 > error 3
told 2 1 1 1 > told 1
check > faults
`)
}

// P10.1 (The console): each kind of notes, and their errors.
func TestNotes(t *testing.T) {
	wantReplies(t, "notes", sampleBeginning, sampleNotes, `
sheet 1 108 1 0 1 0 9 3 10 10 > error 91
sheet 1 108 1 0 1 0 10 4 10 10 > error 60
sheet 1 108 1 0 1 0 10 3 10 9 > error 60
sheet 1 108 1 0 1 0 10 3 10 10 6 1 1 > error 91
sheet 1 -1 1 0 1 0 10 3 10 10 > error 60
sheet 3 108 1 0 1 0 10 3 10 10 > error 1
sheet 0 108 1 0 1 0 10 3 10 10 > error 1
sheet 2 108 1 5 1 0 10 3 10 10 3 1 2 4 8 8 > ok 1
count 2 4 > count 8 8
first 2 3 > first 10 10
sure 2 3 > sure 0 1 0
query 2 109 2 1 1 > ok 2
count 2 4 > count 0 8
reject 2 110 2 1 1 > ok 3
count 2 4 > count 0 0
accept 2 111 2 1 1 > ok 4
count 2 4 > count 8 8
accept 2 111 2 1 2 > error 91
accept 2 111 2 2 1 > error 91
accept 2 111 2 401 1 > error 60
query 2 111 2 1 200 > error 60
reject 2 111 9 1 1 > error 60
reject 9 111 2 1 1 > error 1
call 2 112 2 1 1 3 4 9 > ok 5
count 2 4 > count 0 8
count 2 9 > count 0 8
call 2 112 2 1 1 > error 60
call 2 112 2 1 1 9 4 > error 60
call 2 112 2 1 1 1 > error 91
voucher 2 113 2 1 1 2 1 > ok 6
count 2 3 > count 1 2
count 2 4 > count 0 8
voucher 2 113 2 1 1 3 > error 60
voucher 2 113 2 1 0 2 4 > ok 7
clash 2 > clash 0
count 2 4 > error 71
undo 2 114 2 7 > ok 8
count 2 4 > count 0 8
undo 2 114 2 0 > error 60
undo 3 114 2 1 > error 1
list 2 115 9 2 4 9 6 7 > ok 9
current 2 > current 2 3 5 6 7
list 2 115 9 3 3 6 > error 1
list 2 115 9 -1 3 6 > error 1
list 9 115 9 3 3 6 > error 1
list 2 115 9 2 3 6 > error 60
list 2 115 9 1 4 8 > error 91
list 2 115 8 1 3 8 > error 91
list 2 116 9 1 3 8 > ok 10
current 2 > current 2 5 6 7 8
count 2 8 > count 1 10
series 2 117 1 3 5 9 10 3 2 2 > ok 11
count 2 8 > count 2 10
series 2 117 1 3 5 10 9 3 2 2 > error 60
series 2 117 1 1 5 9 10 3 2 2 > error 91
series 5 117 1 3 5 9 10 3 2 2 > error 1
conflicts 2 > conflicts
undo 2 118 2 99 > ok 12
undo 2 118 2 12 > ok 13
conflicts 2 > conflicts 2 12 2 13
`)
}

// P10.1 (The console): series tell their Args apart.
func TestSeries(t *testing.T) {
	for series, right := range map[string]string{
		"1 2 0 3 30 2 1 1":  "error 71", // two of 2 in the night 12
		"1 2 0 3 11 2 0 1":  "count 2 2",
		"1 2 0 13 30 2 0 1": "count 2 2",
		"1 2 0 12 12 2 0 1": "error 71",
		"1 2 0 12 12 2 0 2": "count 2 2",
		"1 2 0 12 12 2 2 9": "count 2 2",
		"1 2 0 12 12 2 3 9": "error 71",
		"1 2 5 12 12 2 0 1": "count 2 2",
		"2 2 0 12 12 2 0 1": "count 2 2",
		"1 9 0 12 12 2 0 1": "count 2 2",
		"1 2 0 12 12 9 0 1": "count 2 2",
	} {
		wantReplies(t, "a series", sampleBeginning, strings.Join(strings.SplitAfter(sampleNotes, "\n")[:9], ""), "series 1 107 "+series+" > ok 9\n", "count 1 2 > "+right+"\n")
	}
}

// P10.1 (The console): what was known.
func TestKnown(t *testing.T) {
	wantReplies(t, "what was known", sampleBeginning, sampleNotes, `
known 1 107 9 3 > known 1 7 9 12 12 12
known 1 1000000000 1000000000 3 > known 1 7 9 12 12 12
known 1 100 9 3 > known 0 6 9 -1 -1 9
known 1 107 1 3 > known 0 6 9 -1 -1 9
known 1 101 9 3 > known 0 7 9 -1 -1 12
known 1 107 2 4 > known 0 7 9 -1 -1 12
known 1 99 9 3 > known 0 0 -1 -1 -1 -1
known 1 107 0 3 > known 0 0 -1 -1 -1 -1
known 1 -5 -1000000000 3 > known 0 0 -1 -1 -1 -1
known 1 107 9 1 > error 3
known 1 107 9 10 > error 3
known 3 107 9 3 > error 3
known 2 107 9 3 > known 0 0 -1 -1 -1 -1
sheet 1 90 1 0 0 0 4 3 0 9 2 3 3 > ok 10
count 1 2 > count 5 5
known 1 107 9 2 > known 2 2 12 12 12 12
known 1 90 10 2 > known 3 3 4 4 4 4
list 1 108 9 1 9 10 > ok 11
known 1 107 99 9 > known 1 1 7 7 7 7
known 1 108 10 9 > known 1 1 7 7 7 7
known 1 108 11 9 > error 3
known 1 108 11 10 > known 1 1 7 7 7 7
sheet 1 109 1 0 1 1 4 3 0 1 2 3 3 > ok 12
known 1 109 99 2 > error 71
known 1 108 99 2 > known 5 5 4 4 12 12
`)
}

// P10.1 (The console): what happens in the world.
func TestEvents(t *testing.T) {
	wantReplies(t, "events", sampleBeginning, sampleNotes, `
deliver 0 > error 3
lose 0 > error 3
double 0 > error 3
post 1 1 > error 1
post 1 3 > error 1
post 3 1 > error 1
post 1 2 > ok
count 2 3 > count 0 0
double 0 > ok
double 2 > error 3
lose 1 > ok
deliver 1 > error 3
deliver -1 > error 3
deliver 0 > ok
deliver 0 > error 3
count 2 3 > count 1 7
sheet 2 110 2 0 0 0 3 3 2 2 2 1 2 > ok 1
count 1 2 > count 2 2
count 2 2 > count 3 4
settle > ok
count 1 2 > count 3 4
undo 1 111 1 9 > ok 10
undo 1 111 1 2 > ok 11
count 1 2 > count 1 2
sync 3 > error 1
sync 1 > ok
undo 1 112 2 1 > ok 12
undo 1 112 1 1 > ok 13
count 1 2 > count 0 0
count 1 3 > count 0 0
crash 1 0 4 0 > error 1
crash 1 0 -2 0 > error 1
crash 1 0 0 33 > error 1
crash 1 0 0 -1 > error 1
crash 1 -1 0 0 > error 1
crash 3 0 -1 0 > error 1
count 1 2 > count 0 0
crash 1 0 -1 0 > ok
count 1 2 > count 1 2
crash 1 0 0 0 > error 1
undo 1 112 2 1 > ok 12
undo 1 112 1 1 > ok 13
crash 1 3 3 31 > ok
count 1 2 > count 0 0
count 1 3 > count 0 6
undo 1 112 1 1 > ok 13
crash 1 2 0 32 > ok
count 1 3 > count 0 0
undo 1 113 1 7 > ok 14
crash 1 2 0 31 > ok
undo 1 113 1 7 > ok 14
`)
	wantReplies(t, "as many letters as there may be", sampleBeginning, strings.Repeat("post 1 2 > ok\n", 64), "post 2 1 > error 2\ndouble 0 > error 2\nlose 63 > ok\ndouble 0 > ok\n")
	wantReplies(t, "a crash that keeps a page", sampleBeginning, "undo 1 1 1 9 > ok 1\nundo 1 1 1 9 > ok 2\nundo 1 1 1 9 > ok 3\ncrash 1 3 -1 0 > ok\nconflicts 1 > conflicts 1 1\nundo 1 1 1 9 > ok 2\nundo 1 1 1 9 > ok 3\ncrash 1 15 -1 0 > ok\nundo 1 1 1 9 > ok 4\n")
}

// P10.1 (The console): atlases one after the other. Old maps tell where a name was, but not where it has not been since.
func TestAtlases(t *testing.T) {
	wantReplies(t, "atlases", sampleBeginning, sampleNotes, `
atlas 1 > atlas 0 5 2 2
told 2 1 0 0 > told 0
sheet 1 108 2 0 0 0 9 3 0 3 2 1 2 > ok 10
told 2 1 0 0 > told 0
atlas 1 > atlas 0 5 2 2
dots 2 > dots 1 0 0 1 1 1
dots 3 > dots 0 2 3
told 2 1 0 0 > told 1
told 2 1 1 1 > told 1
check > faults
undo 1 109 1 9 > ok 11
undo 1 109 1 2 > ok 12
atlas 1 > atlas 0 5 0 3
check > faults
dots 2 > error 3
told 2 1 1 1 > told 1
rich > rich 3 5
sheet 1 111 2 0 3 0 9 3 0 1 2 2 2 > ok 13
clash 1 > clash 4
current 1 > current 2 3 4 5 9
atlas 1 > atlas 71 0 0 0
check > faults
rich > error 101
dots 2 > error 3
told 2 1 1 1 > told 1
conflicts 1 > conflicts 1 3 1 4 1 8
undo 1 112 1 13 > ok 14
atlas 9 > error 3
rich > error 101
atlas 1 > atlas 0 5 0 3
rich > rich 3 5
`)
}

// P10.1 (The console): too many maps are published: the last atlas stays.
func TestTooManyMaps(t *testing.T) {
	wantReplies(t, "many atlases", sampleBeginning, sampleNotes, strings.Repeat("atlas 1 > atlas 0 5 2 2\n", 100), `
told 3 0 2 3 > told 1
atlas 1 > atlas 0 5 2 2
told 3 0 2 3 > error 2
check > faults
undo 1 112 1 9 > ok 10
undo 1 112 1 2 > ok 11
count 1 3 > count 0 6
atlas 1 > error 2
dots 3 > dots 0 2 3
rich > rich 4 5
check > faults
atlas 1 > error 2
`)
}

// P10.1 (The console): registers of which nothing can be told.
func TestTooManyRecords(t *testing.T) {
	var many strings.Builder
	for night := range 23 {
		many.WriteString("sheet 1 1 1 0 0 0 " + text(night) + " 3 0 9" + strings.Repeat(" 2 0 0", 18) + " > ok " + text(night+1) + "\n")
	}
	wantReplies(t, "too many records", sampleBeginning, many.String(), `
current 1 > error 2
count 1 1 > error 2
known 1 1 22 2 > known 0 0 -1 -1 -1 -1
known 1 1 23 2 > error 2
clash 1 > error 2
atlas 1 > error 2
check > error 104
conflicts 1 > conflicts
`)
	var few strings.Builder
	for line := range 13 {
		few.WriteString("sheet 1 1 1 0 0 0 " + text(line) + " 3 0 1 2 1 2 > ok " + text(line+1) + "\n")
	}
	wantReplies(t, "thirteen records", sampleBeginning, few.String(), "clash 1 > error 2\natlas 1 > atlas 0 5 1 0\n")
}

// R7: the script is not changed, and a result is new memory.
func TestMemoryOfRun(t *testing.T) {
	script := []byte("lamp 1 125\nx\n")
	got := atlas.Run(script)
	if string(script) != "lamp 1 125\nx\n" {
		t.Errorf("the script became %q", script)
	}
	again := slices.Clone(got)
	clear(got)
	wantSame(t, "Run", atlas.Run(script), again)
}
