package atlas

import (
	"strconv"
	"strings"

	"noctuary/api"
)

const greatest = 1000000000 // of the numbers of a command, and with a - ahead the least one

// Parse returns the command of a line.
func Parse(line string) (api.Command, api.Errno) {
	parts := strings.Split(line, " ")
	c := api.Command{Word: parts[0]}
	for _, s := range parts[1:] {
		n, err := strconv.Atoi(s)
		if err != nil || strconv.Itoa(n) != s {
			return api.Command{}, api.ErrCommand
		}
		c.Args = append(c.Args, n)
	}
	if !isCommand(c) {
		return api.Command{}, api.ErrCommand
	}
	return c, api.OK
}

// Print returns a command as a line.
func Print(c api.Command) (string, api.Errno) {
	if !isCommand(c) {
		return "", api.ErrCommand
	}
	return lineOf(c.Word, c.Args), api.OK
}

// isCommand reports whether there is a line for a command.
func isCommand(c api.Command) bool {
	for _, n := range c.Args {
		if n < -greatest || n > greatest {
			return false
		}
	}
	return isWord(c.Word) && len(c.Args) <= api.MaxArgs
}

func isWord(s string) bool {
	for i := range len(s) {
		if s[i] < 'a' || s[i] > 'z' {
			return false
		}
	}
	return s != ""
}

// lineOf returns a word, and numbers with a blank ahead of each.
func lineOf(word string, numbers []int) string {
	line := []byte(word)
	for _, n := range numbers {
		line = strconv.AppendInt(append(line, ' '), int64(n), 10)
	}
	return string(line)
}
