package atlas

import (
	"slices"

	"noctuary/answers"
	"noctuary/api"
	"noctuary/flows"
	"noctuary/register"
)

// trial is an atlas that is checked.
type trial struct {
	api.Atlas
	old    []api.DotMap
	matter matter // of its Case, behind the step that checks this
}

// steps returns what finds faults, in order. Each step may rely on those ahead of it having found nothing.
func (t *trial) steps() []func() []api.Fault {
	if t.Trouble == api.ErrClash {
		return []func() []api.Fault{t.ofBase, t.ofCase, t.ofClash}
	}
	return []func() []api.Fault{t.ofBase, t.ofCase, t.ofPeace, t.ofAnswers, t.ofMaps}
}

// unless returns a single fault, or none if all is right.
func unless(right bool, kind, index int) []api.Fault {
	if right {
		return nil
	}
	return []api.Fault{{Kind: kind, Index: index}}
}

func (t *trial) ofBase() []api.Fault {
	right := register.CheckBase(t.Base) == api.OK && checkOld(t.Base, t.old) == api.OK && (t.Trouble == api.OK || t.Trouble == api.ErrClash)
	return unless(right, api.FaultBase, 0)
}

func (t *trial) ofCase() []api.Fault {
	m, e := matterOfCase(t.Case)
	t.matter = m
	right := e == api.OK && sameMatrix(t.Case.Matrix, t.Base.Matrix) && slices.EqualFunc(t.Case.Rules, t.Base.Rules, sameRule) &&
		slices.Equal(t.Case.Lamps, t.Base.Lamps) && begins(t.Case.Book, t.Base.Book)
	return unless(right, api.FaultCase, 0)
}

// ofClash is for an atlas that tells that not all records can be right.
func (t *trial) ofClash() []api.Fault {
	if _, e := flows.CheckCut(t.matter.net, t.Cut); e != api.OK {
		return unless(false, api.FaultClash, 0)
	}
	clash, _ := answers.Clash(t.Case)
	right := slices.Equal(t.Clash, clash) && len(t.Answers) == 0 && len(t.Maps) == 0 && len(t.Held) == 0
	return unless(right, api.FaultClash, 0)
}

// ofPeace is for an atlas that tells that they can.
func (t *trial) ofPeace() []api.Fault {
	return unless(len(t.Clash) == 0 && len(t.Cut) == 0 && t.matter.isPossible(), api.FaultClash, 1)
}

func (t *trial) ofAnswers() []api.Fault {
	all := len(t.matter.names)
	if len(t.Answers) != all {
		return unless(false, api.FaultAnswer, min(len(t.Answers), all))
	}
	right := make([]bool, all)
	inTurn(all, func(i int) { right[i] = t.matter.isProved(i, t.Answers[i]) })
	var out []api.Fault
	for i, is := range right {
		out = append(out, unless(is, api.FaultAnswer, i)...)
	}
	return out
}

func (t *trial) ofMaps() []api.Fault {
	maps, held, e := mapsOf(t.Base, t.Answers, t.old)
	right := e == api.OK && slices.EqualFunc(t.Maps, maps, sameMap) && slices.Equal(t.Held, held)
	return unless(right, api.FaultMap, 0)
}
