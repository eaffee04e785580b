package write_test

import (
	"bytes"
	"container/heap"
	"math/rand"
	"slices"
	"strings"
	"sync"
	"testing"

	"amanuensis/api"
	"amanuensis/class"
	"amanuensis/glyph"
	"amanuensis/nfd"
	"amanuensis/read"
	"amanuensis/sets"
	"amanuensis/write"
)

// bare are the characters that have a byte whatever the sets are.
var bare = []rune{0x20, 0x98, 0x9c, 0x200c, 0x200d}

var bareBytes = map[rune]string{0x20: "\x20", 0x98: "\x88", 0x9c: "\x89", 0x200c: "\x8e", 0x200d: "\x8d"}

// way is a character that a cluster may be written with, and the marks left then.
type way struct {
	base rune
	rest []rune
}

// byStarter are all characters that are no marks and have a code, and the bare
// ones, by what they begin with when they are taken apart.
var byStarter = sync.OnceValue(func() map[rune][]rune {
	m := map[rune][]rune{}
	for _, x := range append(glyph.Known(), bare...) {
		if !class.Mark(x) {
			first := nfd.NFD([]rune{x})[0]
			m[first] = append(m[first], x)
		}
	}
	return m
})

var codesKept = map[rune][]api.Code{}

func codesOf(r rune) []api.Code {
	list, ok := codesKept[r]
	if !ok {
		list = glyph.Codes(r)
		codesKept[r] = list
	}
	return list
}

func uncoded(m rune) bool {
	return len(codesOf(m)) == 0
}

// waysOf answers the ways of a cluster: of all characters those that are it, with
// the marks that are left.
func waysOf(c []rune) []way {
	var list []way
	for _, x := range byStarter()[c[0]] {
		if slices.Contains(bare, x) && len(c) > 1 {
			continue
		}
		rest := slices.Clone(c[1:])
		for _, m := range nfd.NFD([]rune{x})[1:] {
			if i := slices.Index(rest, m); i >= 0 {
				rest = slices.Delete(rest, i, i+1)
			}
		}
		if slices.Equal(nfd.NFD(append([]rune{x}, rest...)), c) {
			list = append(list, way{x, rest})
		}
	}
	return list
}

// faultOf answers what fault r has, by the chapter's words.
func faultOf(r []rune) api.Fault {
	at := 0
	all := nfd.NFD(r)
	for at < len(all) {
		end := at + 1
		for end < len(all) && class.Mark(all[end]) {
			end++
		}
		if e := faultOfCluster(all[at:end]); e != api.OK {
			return api.Fault{E: e, At: at}
		}
		at = end
	}
	return api.Fault{}
}

func faultOfCluster(c []rune) api.Errno {
	if class.Mark(c[0]) {
		return api.ErrMark
	}
	e := api.ErrMap
	for _, w := range waysOf(c) {
		if slices.ContainsFunc(w.rest, uncoded) {
			continue
		}
		if len(w.rest) <= api.MaxMarks {
			return api.OK
		}
		e = api.ErrMarks
	}
	return e
}

// The first other way: all texts of a few pieces are read, and the least of those
// that mean the same is kept.

// leasts answers for each thing that texts of up to a number of the pieces mean
// the least of those texts.
func leasts(pieces []string, length int) map[string]string {
	best := map[string]string{}
	eachText(pieces, length, func(list []string) {
		text := strings.Join(list, "")
		r, f := read.Text([]byte(text))
		if f.E != api.OK || crowded(r) {
			return
		}
		key := string(nfd.NFD(r))
		if old, ok := best[key]; !ok || write.Less([]byte(text), []byte(old)) {
			best[key] = text
		}
	})
	return best
}

// crowded tells whether a character that was read has more than six marks.
func crowded(r []rune) bool {
	n := 0
	for _, x := range r {
		if n++; !class.Mark(x) {
			n = 0
		}
		if n > api.MaxMarks {
			return true
		}
	}
	return false
}

func TestEncodeAgainstAllTexts(t *testing.T) {
	for _, c := range []struct {
		pieces []string
		length int
		equal  int // so many texts, at least, are the least ones
	}{
		{[]string{"\x1b(N", "\x1bs", "J", "E", "\xe6", "e", " "}, 5, 300},
		{[]string{"\x1b)N", "\x1b)!E", "\xcaa", "\xca", "J", "\x1b(N"}, 6, 40},
		{[]string{"\x1b(S", "\x1bg", "\x1bs", "\"", "\xe2", "a", "i"}, 5, 150},
		{[]string{"\x1b)S", "\x1b)!E", "\x1bs", "\xa2", "\xe2", "a", "\xe1"}, 5, 100},
		{[]string{"\x1bb", "\x1bp", "\x1bs", "2", "\xe2", "e", "\x1b(B"}, 5, 100},
		{[]string{"\x1b$1", "\x1b$)1", "\x1bs", "\x1b)!E", "!0!", "\xa1\xb0\xa1", "a"}, 6, 20},
		{[]string{"\x1b(2", "\x1bs", "G", "H", "K", "a", "\xe2"}, 5, 200},
		{[]string{"\xe2", "\xf2", "\xe3", "\xbc", "o", "\xf0"}, 5, 500},
	} {
		equal := 0
		best := leasts(c.pieces, c.length)
		for key, text := range best {
			b, f := write.Encode([]rune(key))
			r, g := read.Text(b)
			if f.E != api.OK || g.E != api.OK || string(nfd.NFD(r)) != key || crowded(r) || write.Less([]byte(text), b) {
				t.Fatalf("%x: %q %v, and there is %q", []rune(key), b, f, text)
			}
			if string(b) == text {
				equal++
			}
		}
		if equal < c.equal {
			t.Errorf("%q: %d of %d are the least", c.pieces, equal, len(best))
		}
	}
}

// The second other way: texts grow from the beginning on, the least one first,
// till one means what it should.

// node is how far a text has come: so many clusters, the marks that wait, as they
// came, and the sets.
type node struct {
	cluster int
	marks   string
	state   api.State
}

type grown struct {
	text string
	node node
}

type queue []grown

func (q queue) Len() int           { return len(q) }
func (q queue) Less(i, j int) bool { return shorter(q[i].text, q[j].text) }
func (q queue) Swap(i, j int)      { q[i], q[j] = q[j], q[i] }
func (q *queue) Push(x any)        { *q = append(*q, x.(grown)) }
func (q *queue) Pop() any {
	last := (*q)[len(*q)-1]
	*q = (*q)[:len(*q)-1]
	return last
}

func shorter(a, b string) bool {
	return len(a) < len(b) || len(a) == len(b) && a < b
}

// escapesOf are all escapes that make one of the sets G0 or G1, by chapter 8's
// words.
func escapesOf(wanted map[int]bool) map[string]struct{ side, set int } {
	type change = struct{ side, set int }
	all := map[string]change{"\x1bs": {0, api.Basic}, "\x1bb": {0, api.Subscript}, "\x1bp": {0, api.Superscript}, "\x1bg": {0, api.GreekSymbol},
		"\x1b$1": {0, api.East}, "\x1b$,1": {0, api.East}, "\x1b$)1": {1, api.East}, "\x1b$-1": {1, api.East}}
	for set, last := range []string{"", "B", "!E", "S", "2", "3", "4", "N", "Q"} {
		if set > 0 {
			all["\x1b("+last], all["\x1b,"+last] = change{0, set}, change{0, set}
			all["\x1b)"+last], all["\x1b-"+last] = change{1, set}, change{1, set}
		}
	}
	for text, c := range all {
		if !wanted[c.set] {
			delete(all, text)
		}
	}
	return all
}

// grower knows what may come next.
type grower struct {
	clusters [][]rune
	escapes  map[string]struct{ side, set int }
	seen     map[node]bool
	queue    queue
}

func newGrower(r []rune) *grower {
	g := &grower{seen: map[node]bool{}}
	wanted := map[int]bool{api.Basic: true, api.Ansel: true}
	for _, x := range nfd.NFD(r) {
		if !class.Mark(x) {
			g.clusters = append(g.clusters, nil)
		}
		last := len(g.clusters) - 1
		g.clusters[last] = append(g.clusters[last], x)
		for _, y := range append(slices.Clone(byStarter()[x]), x) {
			for _, c := range codesOf(y) {
				wanted[c.Set] = true
			}
		}
	}
	g.escapes = escapesOf(wanted)
	return g
}

func (g *grower) push(text string, n node) {
	if !g.seen[n] {
		heap.Push(&g.queue, grown{text, n})
	}
}

// least answers the least text.
func (g *grower) least() string {
	g.push("", node{state: sets.Default()})
	for {
		at := heap.Pop(&g.queue).(grown)
		if at.node == (node{cluster: len(g.clusters), state: sets.Default()}) {
			return at.text
		}
		if g.seen[at.node] {
			continue
		}
		g.seen[at.node] = true
		g.grow(at)
	}
}

func (g *grower) grow(at grown) {
	for text, e := range g.escapes {
		to := at.node
		if e.side == 0 {
			to.state.G0 = e.set
		} else {
			to.state.G1 = e.set
		}
		g.push(at.text+text, to)
	}
	if at.node.cluster == len(g.clusters) {
		return
	}
	c := g.clusters[at.node.cluster]
	marks := []rune(at.node.marks)
	for i, m := range c {
		if i > 0 && !slices.Contains(c[1:i], m) && len(marks) < api.MaxMarks && count(marks, m) < count(c, m) {
			g.codes(at, m, node{at.node.cluster, at.node.marks + string(m), at.node.state})
		}
	}
	for _, x := range byStarter()[c[0]] {
		if slices.Equal(nfd.NFD(append([]rune{x}, marks...)), c) {
			g.codes(at, x, node{at.node.cluster + 1, "", at.node.state})
		}
	}
}

// codes lets a text grow by a character's codes.
func (g *grower) codes(at grown, x rune, to node) {
	if b, ok := bareBytes[x]; ok && at.node.marks == "" {
		g.push(at.text+b, to)
	}
	for _, c := range codesOf(x) {
		b := []byte{byte(c.N >> 16), byte(c.N >> 8), byte(c.N)}[3-glyph.Size(c.Set):]
		if c.Set == at.node.state.G0 {
			g.push(at.text+string(b), to)
		}
		if c.Set == at.node.state.G1 {
			for i := range b {
				b[i] += 0x80
			}
			g.push(at.text+string(b), to)
		}
	}
}

func count(list []rune, m rune) int {
	n := 0
	for _, x := range list {
		if x == m {
			n++
		}
	}
	return n
}

// leastLike holds what Encode answers against both: the fault by the chapter's
// words, or the least text that grows.
func leastLike(t *testing.T, r []rune) {
	t.Helper()
	b, f := write.Encode(r)
	if want := faultOf(r); want.E != api.OK || f != want {
		if f != want || len(b) != 0 {
			t.Errorf("%x: %q %v, not %v", r, b, f, want)
		}
		return
	}
	if want := newGrower(r).least(); string(b) != want {
		t.Errorf("%x: %q, not %q", r, b, want)
	}
}

// alphabets are characters that stand together in texts, and those between them
// that several sets have.
var alphabets = [][]rune{
	{'a', 'e', ' ', 0x301, 0x302, 0x323, '1', '.'},
	{'o', 'u', 0x31b, 0x301, 0x328, 0x1ef0, 0xe6, 0x110},
	{0x436, 0x439, 0x456, 0x491, 0x306, 0x308, ' ', '.', 'z'},
	{0x436, 0x42a, 0x44a, 0x463, 0x301, '[', 'z', '1', 0x142},
	{0x3b1, 0x3b2, 0x3b4, 0x301, 0x308, 0x345, 0x390, ';', 0xb7, 'z'},
	{0x5d0, 0x5bc, 0x5b7, 0x5b0, '"', '(', 0x5f2, 'z', 0x301},
	{0x627, 0x622, 0x653, 0x64b, 0x679, 0x60c, '(', '1', 0x661, 'z'},
	{0x4e00, 0x4e8c, 0x304c, 0x3099, 0x3000, 'z', 0xe9, 0x300c, ' '},
	{0x2082, 0xb2, 0x2084, 0x301, '2', 'H', 0x3b1, 0x207a, '+'},
	{0x436, 0x4e00, 0x5d0, 0x627, 0x3b1, 0x2082, 0x491, 'z', 0x301, ' ', 0x200d, 0x98, '2'},
}

// The seeds stay the same: so do the texts.
func TestEncodeAgainstTextsThatGrow(t *testing.T) {
	for i, alphabet := range alphabets {
		random := rand.New(rand.NewSource(int64(17 + i)))
		for range 120 {
			text := []rune{alphabet[0]}
			for range random.Intn(12) {
				text = append(text, alphabet[random.Intn(len(alphabet))])
			}
			leastLike(t, text)
		}
	}
}

// Some texts change from one set to another as seldom as real ones do.
func TestEncodeOfWordsAgainstTextsThatGrow(t *testing.T) {
	random := rand.New(rand.NewSource(1))
	for range 100 {
		var text []rune
		for range 1 + random.Intn(8) {
			alphabet := alphabets[random.Intn(len(alphabets))]
			for range 1 + random.Intn(8) {
				if x := alphabet[random.Intn(len(alphabet))]; mayFollow(text, x) {
					text = append(text, x)
				}
			}
		}
		leastLike(t, text)
	}
}

// mayFollow tells whether x is no mark that is a fault at the end of the text.
func mayFollow(text []rune, x rune) bool {
	if !class.Mark(x) {
		return true
	}
	return len(text) > 0 && !slices.Contains(bare, text[len(text)-1]) && !uncoded(x)
}

// Each character alone, with a mark, and beside those of another set.
func TestEncodeOfEachCharacter(t *testing.T) {
	list := append(glyph.Known(), bare...)
	for i, x := range list {
		if x >= 0x3400 && i%40 > 0 { // there are very many of one kind
			continue
		}
		leastLike(t, []rune{x})
		leastLike(t, []rune{x, 0x301})
		leastLike(t, []rune{x, 0x323, 0x308, x})
		leastLike(t, []rune{'z', x, 0x436, x})
	}
}

// Only a small part of all characters has a code: a fault is told of each other one.
func TestEncodeOfOthers(t *testing.T) {
	for r := rune(0); r < 0x3400; r++ {
		b, f := write.Encode([]rune{'a', r})
		if want := faultOf([]rune{'a', r}); f != want || f.E != api.OK && len(b) > 0 {
			t.Errorf("%x: %q %v, not %v", r, b, f, want)
		}
	}
}

// Sets that may not be G1 would make some texts shorter by any number of bytes.
func TestSetsThatAreG0Alone(t *testing.T) {
	for _, n := range []int{1, 2, 50, 63, 64, 65, 100, 2000} {
		encodeLike(t, []rune(strings.Repeat("₂²", n)), strings.Repeat("\x1bb2\x1bp2", n)+"\x1bs")
	}
}

// What Encode answers is the least one of its kind: read and written again it's
// the same.
func TestEncodeOfWhatWasRead(t *testing.T) {
	random := rand.New(rand.NewSource(2))
	for range 300 {
		var text []rune
		for range random.Intn(30) {
			alphabet := alphabets[random.Intn(len(alphabets))]
			text = append(text, alphabet[random.Intn(len(alphabet))])
		}
		b, f := write.Encode(text)
		if f.E != api.OK {
			continue
		}
		r, g := read.Text(b)
		again, h := write.Encode(r)
		if g.E != api.OK || h.E != api.OK || !bytes.Equal(again, b) {
			t.Errorf("%x: %q, and again %q %v", text, b, again, h)
		}
	}
}
