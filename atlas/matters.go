package atlas

import (
	"sync"

	"noctuary/answers"
	"noctuary/api"
	"noctuary/flows"
	"noctuary/names"
	"noctuary/register"
)

const workers = 8 // find answers at a time

// matter is a case that is valid, with its net and its names.
type matter struct {
	asked api.Case
	net   api.Net
	names []int
}

// matterOf returns the case of a base and a register.
func matterOf(b api.Base, r api.Register) (matter, api.Errno) {
	c, e := register.CaseOf(b, r)
	if e != api.OK {
		return matter{}, e
	}
	return matterOfCase(c)
}

func matterOfCase(c api.Case) (matter, api.Errno) {
	net, e := answers.NetOf(c)
	if e != api.OK {
		return matter{}, e
	}
	last, _ := names.Last(c.Book)
	all, _ := names.Names(c.Book, last)
	return matter{asked: c, net: net, names: all}, api.OK
}

// isPossible reports whether all records can be right.
func (m matter) isPossible() bool {
	is, _ := answers.Possible(m.asked)
	return is
}

// arc returns the arc of the name with an index.
func (m matter) arc(i int) []int {
	return []int{len(m.net.Arcs) - len(m.names) + i}
}

// whenAndWhere returns the answer to a name without its count, and without what proves this.
func (m matter) whenAndWhere(name int) api.Answer {
	x := api.Answer{Name: name}
	x.First, _ = answers.First(m.asked, name)
	x.Last, _ = answers.LastOf(m.asked, name)
	x.Sure, _ = answers.Sure(m.asked, name)
	x.May, _ = answers.May(m.asked, name)
	return x
}

// proved returns the answer to the name with an index. Both ends of its count are those of the shares.
func (m matter) proved(i int) api.Answer {
	arc := m.arc(i)
	x := m.whenAndWhere(m.names[i])
	x.Least, _ = flows.Least(m.net, arc)
	x.Most, _ = flows.Most(m.net, arc)
	x.LowCut, _ = flows.ProveLeast(m.net, arc)
	x.HighCut, _ = flows.ProveMost(m.net, arc)
	x.Count.Lo, _ = flows.Sum(x.Least, arc)
	x.Count.Hi, _ = flows.Sum(x.Most, arc)
	return x
}

// isProved reports whether an answer is right for the name with an index, and its count proved by shares and heights.
func (m matter) isProved(i int, x api.Answer) bool {
	arc := m.arc(i)
	low, e := flows.CheckLeast(m.net, arc, x.LowCut)
	if e != api.OK || low != x.Count.Lo || !m.isEnd(x.Least, arc, low) {
		return false
	}
	high, e := flows.CheckMost(m.net, arc, x.HighCut)
	if e != api.OK || high != x.Count.Hi || !m.isEnd(x.Most, arc, high) {
		return false
	}
	right := m.whenAndWhere(m.names[i])
	right.Count = x.Count
	return x.Name == right.Name && tellSame(x, right)
}

// isEnd reports whether numbers are shares with a sum along an arc.
func (m matter) isEnd(shares, arc []int, end int) bool {
	if flows.Keeps(m.net, shares) != api.OK {
		return false
	}
	sum, e := flows.Sum(shares, arc)
	return e == api.OK && sum == end
}

// each finds something for each name, by its index.
func (m matter) each(find func(i int) api.Answer) []api.Answer {
	out := make([]api.Answer, len(m.names))
	inTurn(len(out), func(i int) { out[i] = find(i) })
	return out
}

// inTurn does something with each number less than n. Several workers do so at a time, none of them with the number of another one.
func inTurn(n int, do func(i int)) {
	var all sync.WaitGroup
	for first := range workers {
		all.Add(1)
		go func() {
			defer all.Done()
			for i := first; i < n; i += workers {
				do(i)
			}
		}()
	}
	all.Wait()
}
