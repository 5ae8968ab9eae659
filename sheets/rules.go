package sheets

import (
	"noctuary/api"
	"noctuary/places"
)

const noDoubt = 0

// CheckRules returns OK if rules are valid.
func CheckRules(l []api.Rule) api.Errno {
	if len(l) > api.MaxRules || !areIDs(l, ruleName) {
		return api.ErrRules
	}
	for _, r := range l {
		if !between(r.Most, 0, api.MaxCount) || !places.ValidSeason(r.Season) || !places.ValidRegion(r.Region) {
			return api.ErrRules
		}
	}
	return api.OK
}

// RuleOf returns the rule of a name.
func RuleOf(l []api.Rule, name int) (int, api.Errno) {
	if e := CheckRules(l); e != api.OK {
		return 0, e
	}
	i, found := indexOf(l, ruleName, name)
	if !found {
		return 0, api.ErrNone
	}
	return i, api.OK
}

// Doubts returns what rules doubt in a sheet.
func Doubts(l []api.Rule, s api.Sheet) ([]api.Doubt, api.Errno) {
	if e := CheckRules(l); e != api.OK {
		return nil, e
	}
	if !isValid(s) {
		return nil, api.ErrSheet
	}
	var out []api.Doubt
	for i, line := range s.Lines {
		at, found := indexOf(l, ruleName, line.Name)
		if !found {
			continue
		}
		kind := nextDoubt(l[at], s, line, api.DoubtPlace)
		for kind != noDoubt {
			out = append(out, api.Doubt{Line: i, Rule: at, Kind: kind})
			kind = nextDoubt(l[at], s, line, kind+1)
		}
	}
	return out, api.OK
}

// nextDoubt returns the first kind of doubt, from a kind on, that a rule has about a line of its name.
func nextDoubt(r api.Rule, s api.Sheet, line api.Line, from int) int {
	switch from {
	case api.DoubtPlace:
		if in, _ := places.Has(r.Region, s.Square); !in {
			return api.DoubtPlace
		}
		fallthrough
	case api.DoubtSeason:
		if in, _ := places.InSeason(r.Season, s.Night); !in {
			return api.DoubtSeason
		}
		fallthrough
	case api.DoubtMany:
		if line.Count.Lo > r.Most {
			return api.DoubtMany
		}
	}
	return noDoubt
}

func ruleName(r api.Rule) int { return r.Name }
