package answers

import (
	"noctuary/api"
	"noctuary/flows"
)

const unbounded = 1000000000 // the Hi of arcs of names

// question is a valid case with its net.
type question struct {
	reading
	net
}

// ask returns a question about a case, if the case is valid, the demands are met, and its net is not too great.
func ask(c api.Case, demands ...demand) (question, api.Errno) {
	r, e := open(c, demands...)
	if e != api.OK {
		return question{}, e
	}
	n := netOf(r)
	if n.at.end > api.MaxVertices || len(n.arcs) > api.MaxArcs {
		return question{}, api.ErrLimit
	}
	return question{reading: r, net: n}, api.OK
}

// net is the net of a case, with what some of its arcs stand for.
type net struct {
	arcList
	at      nodes
	records int           // the arc of the first record
	shares  map[share]int // the arc of each record and candidate
	names   int           // the arc of the first name
}

// share is what is given of a record (by its index) to a name.
type share struct{ record, name int }

// arcList is arcs, one behind the other.
type arcList struct{ arcs []api.Arc }

func (l *arcList) add(from, to int, s api.Span) {
	l.arcs = append(l.arcs, api.Arc{From: from, To: to, Lo: s.Lo, Hi: s.Hi})
}

// nodes tells where the nodes of each kind begin, behind the hub.
type nodes struct{ catches, records, series, names, end int }

const hub = 0

func nodesOf(r reading, w worked) nodes {
	at := nodes{catches: hub + 1}
	at.records = at.catches + len(r.Catches)
	at.series = at.records + len(r.Records)
	at.names = at.series + len(w.counting)
	at.end = at.names + len(r.now())
	return at
}

// netOf returns the net of a case; it may be too great.
func netOf(r reading) net {
	w := workedOf(r)
	n := net{at: nodesOf(r, w), shares: map[share]int{}}
	r.addCatches(n.at, n.add)
	n.records = len(n.arcs)
	r.addRecords(n.at, n.add)
	n.addShares(r, w)
	for k, s := range w.counting {
		n.add(n.at.series+k, n.at.names+r.placeOf(s.name), s.count)
	}
	n.names = len(n.arcs)
	for i := range r.now() {
		n.add(n.at.names+i, hub, api.Span{Hi: unbounded})
	}
	return n
}

// addCatches adds the arcs to all catches, and those of the moths that no record tells.
func (r reading) addCatches(at nodes, add func(from, to int, s api.Span)) {
	for i, x := range r.Catches {
		add(hub, at.catches+i, x.Total)
	}
	for i, x := range r.Catches {
		add(at.catches+i, hub, api.Span{Hi: x.Total.Hi})
	}
}

// addRecords adds the arcs from the catches to the records.
func (r reading) addRecords(at nodes, add func(from, to int, s api.Span)) {
	for i, x := range r.Records {
		add(at.catches+r.catches[x.Sheet], at.records+i, taken(x))
	}
}

// addShares adds the arcs from the records to the series and names.
func (n *net) addShares(r reading, w worked) {
	for i, l := range r.candid() {
		x, of := r.Records[i], r.catchOf(i)
		for _, name := range l {
			to := n.at.names + r.placeOf(name)
			if k, found := w.find(x, of, name); found {
				to = n.at.series + k
			}
			n.shares[share{record: i, name: name}] = len(n.arcs)
			n.add(n.at.records+i, to, api.Span{Hi: taken(x).Hi})
		}
	}
}

// plain returns the net as it is told.
func (n net) plain() api.Net { return api.Net{Nodes: n.at.end, Arcs: n.arcs} }

// arcOf returns the arc of a record and a candidate.
func (n net) arcOf(record, name int) (int, api.Errno) {
	arc, found := n.shares[share{record: record, name: name}]
	if !found {
		return 0, api.ErrNone
	}
	return arc, api.OK
}

// number returns the arc of the number of a name.
func (q question) number(name int) []int { return []int{q.names + q.placeOf(name)} }

// span returns the least and the greatest sum along arcs over all shares.
func (q question) span(arcs []int) (api.Span, api.Errno) {
	s, e := flows.Span(q.plain(), arcs)
	return s, clashing(e)
}

// clashing returns the error of a question for that of a call with its net: all that can be wrong there is that the net has no flow.
func clashing(e api.Errno) api.Errno {
	if e != api.OK {
		return api.ErrClash
	}
	return api.OK
}
