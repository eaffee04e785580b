package write

import (
	"slices"

	"amanuensis/api"
	"amanuensis/class"
	"amanuensis/cluster"
	"amanuensis/glyph"
	"amanuensis/nfd"
)

// place is how far a cluster is written: which of its marks stand in the text, or
// that all of it does. The marks are put in order, so that orders that mean the
// same lead to one place.
type place struct {
	marks string
	done  bool
}

// step is one way to go on at a place: a code's bytes, as they are where its set
// is G0, and the place behind them. What is read alike whatever the sets are has
// no set.
type step struct {
	set  int
	text string
	to   place
}

// plan is all steps of a cluster, by the places where they begin.
type plan map[place][]step

// plan makes the plan of the cluster c, if there is none yet.
func (w *writer) plan(c []rune) api.Errno {
	if _, ok := w.plans[string(c)]; ok {
		return api.OK
	}
	list, e := w.ways(c)
	if e != api.OK {
		return e
	}
	p := plan{}
	for _, way := range list {
		for _, order := range cluster.Orders(way.Rest) {
			w.lay(p, order, way.Base)
		}
	}
	w.plans[string(c)] = p
	return api.OK
}

// ways answers all ways that the cluster c can be written; if there is none, why.
func (w *writer) ways(c []rune) ([]cluster.Way, api.Errno) {
	if len(c) > 0 && class.Mark(c[0]) {
		return nil, api.ErrMark
	}
	list := slices.DeleteFunc(cluster.Ways(c), w.lacks)
	if len(list) == 0 {
		return nil, api.ErrMap
	}
	list = slices.DeleteFunc(list, crowded)
	if len(list) == 0 {
		return nil, api.ErrMarks
	}
	return list, api.OK
}

// lacks tells whether one of the way's marks has no code.
func (w *writer) lacks(way cluster.Way) bool {
	return slices.ContainsFunc(way.Rest, func(m rune) bool { return len(w.codesOf(m)) == 0 })
}

// crowded tells whether the way has more marks than may stand on a character.
func crowded(way cluster.Way) bool {
	return len(way.Rest) > api.MaxMarks
}

// lay puts the steps of marks in one order, and of the character behind them,
// into the plan.
func (w *writer) lay(p plan, order []rune, base rune) {
	at := place{}
	for i, m := range order {
		to := place{marks: string(nfd.Order(order[:i+1]))}
		p.add(at, w.steps(m, to))
		at = to
	}
	p.add(at, w.steps(base, place{done: true}))
}

// add puts those of the steps into the plan that it has not yet.
func (p plan) add(at place, steps []step) {
	for _, s := range steps {
		if !slices.Contains(p[at], s) {
			p[at] = append(p[at], s)
		}
	}
}

// steps answers the steps that write r, one for each of its codes.
func (w *writer) steps(r rune, to place) []step {
	if b, ok := bare(r); ok {
		return []step{{text: string([]byte{b}), to: to}}
	}
	var list []step
	for _, c := range w.codesOf(r) {
		list = append(list, step{set: c.Set, text: lower(c), to: to})
	}
	return list
}

// codesOf answers all codes of r, for which layer 13 is asked once.
func (w *writer) codesOf(r rune) []api.Code {
	list, ok := w.codes[r]
	if !ok {
		list = glyph.Codes(r)
		w.codes[r] = list
	}
	return list
}

// bare answers the byte of a character that has one whatever the sets are.
func bare(r rune) (byte, bool) {
	switch r {
	case ' ':
		return 0x20, true
	case 0x98:
		return 0x88, true
	case 0x9c:
		return 0x89, true
	case 0x200d:
		return 0x8d, true
	case 0x200c:
		return 0x8e, true
	}
	return 0, false
}

// lower answers a code's bytes where its set is G0.
func lower(c api.Code) string {
	var b []byte
	for i := range glyph.Size(c.Set) {
		b = append(b, byte(c.N>>(8*i)))
	}
	slices.Reverse(b)
	return string(b)
}

// upper answers them where it is G1.
func upper(text string) string {
	b := []byte(text)
	for i := range b {
		b[i] |= 0x80
	}
	return string(b)
}

// in answers the step's bytes by the sets of s, if it may be taken with them.
func (t step) in(s api.State) (string, bool) {
	switch t.set {
	case 0, s.G0:
		return t.text, true
	case s.G1:
		return upper(t.text), true
	}
	return "", false
}
