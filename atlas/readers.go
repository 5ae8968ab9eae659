package atlas

import (
	"slices"

	"noctuary/api"
)

// CountOf returns what an atlas tells of the count of a name.
func CountOf(x api.Atlas, name int) (api.Span, api.Errno) {
	a, e := told(x, name)
	return a.Count, e
}

// FirstOf returns what an atlas tells of the first night of a name.
func FirstOf(x api.Atlas, name int) (api.Span, api.Errno) {
	a, e := told(x, name)
	return a.First, e
}

// LastOf returns what an atlas tells of the last night of a name.
func LastOf(x api.Atlas, name int) (api.Span, api.Errno) {
	a, e := told(x, name)
	return a.Last, e
}

// SureOf returns the squares in which a name surely was.
func SureOf(x api.Atlas, name int) ([]api.Square, api.Errno) {
	a, e := told(x, name)
	return slices.Clone(a.Sure), e
}

// told returns the first answer of an atlas to a name.
func told(x api.Atlas, name int) (api.Answer, api.Errno) {
	for _, a := range x.Answers {
		if a.Name == name {
			return a, api.OK
		}
	}
	return api.Answer{}, api.ErrNone
}

// MapOf returns the map of a name.
func MapOf(x api.Atlas, name int) (api.DotMap, api.Errno) {
	for _, m := range x.Maps {
		if m.Name == name {
			return api.DotMap{Name: name, Dots: slices.Clone(m.Dots), Region: slices.Clone(m.Region)}, api.OK
		}
	}
	return api.DotMap{}, api.ErrNone
}

// Richness returns how many names there were at least and at most.
func Richness(x api.Atlas) (api.Span, api.Errno) {
	if x.Trouble != api.OK {
		return api.Span{}, api.ErrAtlas
	}
	var out api.Span
	for _, a := range x.Answers {
		if a.Count.Lo > 0 {
			out.Lo++
		}
		if a.Count.Hi > 0 {
			out.Hi++
		}
	}
	return out, api.OK
}

// Compare returns the names of which two atlases tell other things.
func Compare(x, y api.Atlas) ([]int, api.Errno) {
	if x.Trouble != api.OK || y.Trouble != api.OK {
		return nil, api.ErrAtlas
	}
	old, now := firstAnswers(x), firstAnswers(y)
	var differ []int
	for name, a := range old {
		if b, both := now[name]; !both || !tellSame(a, b) {
			differ = append(differ, name)
		}
	}
	for name := range now {
		if _, both := old[name]; !both {
			differ = append(differ, name)
		}
	}
	slices.Sort(differ)
	return differ, api.OK
}

// firstAnswers returns the first answer to each name.
func firstAnswers(x api.Atlas) map[int]api.Answer {
	out := map[int]api.Answer{}
	for _, a := range slices.Backward(x.Answers) {
		out[a.Name] = a
	}
	return out
}
