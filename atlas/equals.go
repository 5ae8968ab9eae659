package atlas

import (
	"slices"

	"noctuary/api"
)

// begins reports whether a book of names begins with another one.
func begins(a, b api.NameBook) bool {
	n := len(b.Changes)
	return slices.Equal(a.First, b.First) && len(a.Changes) >= n && slices.EqualFunc(a.Changes[:n], b.Changes, sameChange)
}

func sameChange(a, b api.Change) bool {
	return a.Year == b.Year && slices.Equal(a.From, b.From) && slices.Equal(a.To, b.To)
}

func sameMatrix(a, b api.Matrix) bool {
	return slices.Equal(a.States, b.States) && slices.EqualFunc(a.Rows, b.Rows, sameRow)
}

func sameRow(a, b api.Row) bool { return a.Name == b.Name && slices.Equal(a.May, b.May) }

func sameRule(a, b api.Rule) bool {
	return a.Name == b.Name && slices.Equal(a.Region, b.Region) && a.Season == b.Season && a.Most == b.Most
}

func sameMap(a, b api.DotMap) bool {
	return a.Name == b.Name && slices.Equal(a.Dots, b.Dots) && slices.Equal(a.Region, b.Region)
}

// tellSame reports whether two answers tell the same of one name, or of two, whatever proves it.
func tellSame(a, b api.Answer) bool {
	return a.Count == b.Count && a.First == b.First && a.Last == b.Last && slices.Equal(a.Sure, b.Sure) && slices.Equal(a.May, b.May)
}
