package write

import (
	"slices"

	"amanuensis/api"
	"amanuensis/sets"
)

// costs are how many bytes must still come at least from a place on, by the sets
// that are G0 and G1 there. Behind a cluster they are told above the least of
// them: what differs does not hang on how long the text is that comes, and since
// two escapes lead from any sets to any others it's never more than their bytes.
// (Costs of sets that may not be where they are have no meaning: a text that no
// escape leads to may be shorter by any number of bytes.)
type costs [api.LastSet + 1][api.LastSet + 1]uint8

// never is more than any costs in a cluster, and leaves room above it for what
// is put to them at once.
const never = 200

// spot is a cluster and the costs behind it.
type spot struct {
	cluster string
	behind  costs
}

// prices are the costs of all places of a spot's cluster.
type prices map[place]costs

// change is an escape.
type change struct {
	side, set int
	text      string
}

// ground is what costs are worked out over: the least escape for each side of each
// set, and all sets that these make.
type ground struct {
	changes []change
	states  []api.State
}

func newGround() ground {
	var g ground
	sides := [2][]change{}
	for set := range api.LastSet + 1 {
		for _, side := range sets.Sides(set) {
			e, _ := sets.Designate(side, set)
			sides[side] = append(sides[side], change{side: side, set: set, text: string(e)})
		}
	}
	for _, a := range sides[0] {
		for _, b := range sides[1] {
			g.states = append(g.states, api.State{G0: a.set, G1: b.set})
		}
	}
	g.changes = slices.Concat(sides[0], sides[1])
	return g
}

// price answers the prices of a spot. A long text has few spots that differ, so
// that they are kept for the text's sake.
func (w *writer) price(s spot) prices {
	known, ok := w.prices[s]
	if !ok {
		known = prices{place{done: true}: s.behind}
		w.fill(known, w.plans[s.cluster], place{})
		w.prices[s] = known
	}
	return known
}

// fill answers the costs of a place, and puts them, and those of all places
// behind it, to what is known.
func (w *writer) fill(known prices, p plan, at place) costs {
	if c, ok := known[at]; ok {
		return c
	}
	c := w.endless()
	for _, t := range p[at] {
		w.step(&c, t, w.fill(known, p, t.to))
	}
	w.escape(&c)
	known[at] = c
	return c
}

// ending answers the costs behind all clusters: a text ends with the usual sets.
func (g ground) ending() costs {
	c := g.endless()
	s := sets.Default()
	c[s.G0][s.G1] = 0
	g.escape(&c)
	return c
}

// endless answers the costs of a place where nothing leads on.
func (g ground) endless() costs {
	var c costs
	for _, s := range g.states {
		c[s.G0][s.G1] = never
	}
	return c
}

// step makes of costs what they are if a step may be taken, too.
func (g ground) step(c *costs, t step, behind costs) {
	for _, s := range g.states {
		if t.set == 0 || t.set == s.G0 || t.set == s.G1 {
			c[s.G0][s.G1] = min(c[s.G0][s.G1], behind[s.G0][s.G1]+uint8(len(t.text)))
		}
	}
}

// escape makes of costs what they are if escapes may stand ahead, too. Two may,
// one of each side: the one that comes later in the list finds the other one in
// its costs already.
func (g ground) escape(c *costs) {
	for _, e := range g.changes {
		for _, s := range g.states {
			to := e.of(s)
			c[s.G0][s.G1] = min(c[s.G0][s.G1], c[to.G0][to.G1]+uint8(len(e.text)))
		}
	}
}

// above answers costs above the least of them.
func (g ground) above(c costs) costs {
	least := uint8(never)
	for _, s := range g.states {
		least = min(least, c[s.G0][s.G1])
	}
	for _, s := range g.states {
		c[s.G0][s.G1] -= least
	}
	return c
}

// of answers what the escape makes of s.
func (e change) of(s api.State) api.State {
	if e.side == 0 {
		s.G0 = e.set
	} else {
		s.G1 = e.set
	}
	return s
}
