package write

import (
	"amanuensis/api"
	"amanuensis/sets"
)

// writer writes a text, for which it keeps what it found out once.
type writer struct {
	ground
	done   []byte
	state  api.State // the sets at the end of what is done
	codes  map[rune][]api.Code
	plans  map[string]plan
	prices map[spot]prices
}

// move is what may be written next, and where that leads. Its cost is its own
// bytes and what must come behind them.
type move struct {
	text  string
	state api.State
	to    place
	cost  uint8
}

func newWriter() *writer {
	return &writer{
		ground: newGround(),
		state:  sets.Default(),
		codes:  map[rune][]api.Code{},
		plans:  map[string]plan{},
		prices: map[spot]prices{},
	}
}

// text answers the least text of clusters, each of which has a plan. What must
// come behind a cluster is told from the end on, and then tells the least way
// from the beginning on.
func (w *writer) text(list [][]rune) []byte {
	priced := make([]prices, len(list))
	behind := w.ending()
	for i := len(list) - 1; i >= 0; i-- {
		priced[i] = w.price(spot{cluster: string(list[i]), behind: behind})
		behind = w.above(priced[i][place{}])
	}
	for i, c := range list {
		w.cluster(w.plans[string(c)], priced[i])
	}
	w.shut()
	return w.done
}

// cluster writes a cluster, and the escapes in it and ahead of it.
func (w *writer) cluster(p plan, known prices) {
	for at := (place{}); !at.done; {
		at = w.next(at, p[at], known)
	}
}

// shut writes the escapes that make the usual sets.
func (w *writer) shut() {
	known := prices{place{}: w.ending()}
	for w.state != sets.Default() {
		w.next(place{}, nil, known)
	}
}

// next writes the first step or escape of the least text from a place on, and
// answers the place behind it. None that may come is another one's beginning, so
// that the least of those with the least cost is the one.
func (w *writer) next(at place, steps []step, known prices) place {
	best := move{cost: never}
	for _, t := range steps {
		if text, ok := t.in(w.state); ok {
			best = known.better(best, move{text: text, state: w.state, to: t.to})
		}
	}
	for _, e := range w.changes {
		best = known.better(best, move{text: e.text, state: e.of(w.state), to: at})
	}
	w.done = append(w.done, best.text...)
	w.state = best.state
	return best.to
}

// better answers best, or m, whose cost it works out, if that is less.
func (known prices) better(best, m move) move {
	c := known[m.to]
	m.cost = c[m.state.G0][m.state.G1] + uint8(len(m.text))
	if m.cost < best.cost || m.cost == best.cost && m.text < best.text {
		return m
	}
	return best
}
