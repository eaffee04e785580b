package escape_test

import (
	"bytes"
	"math"
	"slices"
	"strings"
	"testing"

	"amanuensis/api"
	"amanuensis/escape"
	"amanuensis/sets"
)

// made is what an escape names: a set, and the side whose it is made.
type made struct{ side, set int }

// told are all escapes of chapter 8's words, without their byte 1b, by the
// sides' and the sets' numbers in the document.
var told = map[string]made{
	"(B": {0, 1}, ",B": {0, 1}, "s": {0, 1}, ")B": {1, 1}, "-B": {1, 1},
	"(!E": {0, 2}, ",!E": {0, 2}, ")!E": {1, 2}, "-!E": {1, 2},
	"(S": {0, 3}, ",S": {0, 3}, ")S": {1, 3}, "-S": {1, 3},
	"(2": {0, 4}, ",2": {0, 4}, ")2": {1, 4}, "-2": {1, 4},
	"(3": {0, 5}, ",3": {0, 5}, ")3": {1, 5}, "-3": {1, 5},
	"(4": {0, 6}, ",4": {0, 6}, ")4": {1, 6}, "-4": {1, 6},
	"(N": {0, 7}, ",N": {0, 7}, ")N": {1, 7}, "-N": {1, 7},
	"(Q": {0, 8}, ",Q": {0, 8}, ")Q": {1, 8}, "-Q": {1, 8},
	"$1": {0, 9}, "$,1": {0, 9}, "$)1": {1, 9}, "$-1": {1, 9},
	"b": {0, 10}, "p": {0, 11}, "g": {0, 12},
}

// printed are the escapes that are printed, by sides, then sets: "" of none.
var printed = [2][13]string{
	{"", "\x1bs", "\x1b(!E", "\x1b(S", "\x1b(2", "\x1b(3", "\x1b(4", "\x1b(N", "\x1b(Q", "\x1b$1", "\x1bb", "\x1bp", "\x1bg"},
	{"", "\x1b)B", "\x1b)!E", "\x1b)S", "\x1b)2", "\x1b)3", "\x1b)4", "\x1b)N", "\x1b)Q", "\x1b$)1", "", "", ""},
}

// of answers what the escape makes of s.
func (m made) of(s api.State) api.State {
	if m.side == 0 {
		return api.State{G0: m.set, G1: s.G1}
	}
	return api.State{G0: s.G0, G1: m.set}
}

// states are some that a text may have, and some whose sets may not be there.
func states() []api.State {
	return []api.State{
		{G0: 1, G1: 2}, {G0: 9, G1: 9}, {G0: 12, G1: 1}, {G0: 2, G1: 3}, {}, {G0: 2, G1: 10},
		{G0: -1, G1: 13}, {G0: math.MinInt, G1: math.MaxInt}, {G0: math.MaxInt, G1: math.MinInt},
	}
}

// numbers are all numbers around the sets, and those at the ends of their type
// or with a set's lower bits.
func numbers() []int {
	list := []int{
		math.MinInt, math.MinInt + 1, math.MinInt + 9, math.MinInt32 + 1,
		math.MaxInt32 + 1, 1<<32 + 1, 1<<32 + 2, 0x101, 0x102, -0xff, 'B', 'b', math.MaxInt,
	}
	for n := -14; n <= 0x20; n++ {
		list = append(list, n)
	}
	return list
}

// nextLike holds an answer against what is wanted; a fault's other results are
// to be zero.
func nextLike(t *testing.T, b []byte, at int, s, want api.State, n int, e api.Errno) {
	t.Helper()
	fault := api.Fault{}
	if e != api.OK {
		fault, want, n = api.Fault{E: e, At: at}, api.State{}, 0
	}
	if x, m, f := escape.Next(b, at, s); x != want || m != n || f != fault {
		t.Errorf("Next(%q, %d, %v): %v, %d, %v, not %v, %d, %v", b, at, s, x, m, f, want, n, fault)
	}
}

// nextAsTold holds the answer at a byte 1b against the list.
func nextAsTold(t *testing.T, b []byte, at int, s api.State) {
	t.Helper()
	for n := 1; n <= 3 && at+n < len(b); n++ {
		if m, ok := told[string(b[at+1:at+1+n])]; ok {
			nextLike(t, b, at, s, m.of(s), n+1, api.OK)
			return
		}
	}
	nextLike(t, b, at, s, s, 0, api.ErrEscape)
}

func printLike(t *testing.T, from, to api.State, want string) {
	t.Helper()
	if b := escape.Print(from, to); string(b) != want {
		t.Errorf("Print(%v, %v): %q, not %q", from, to, b, want)
	}
}

// Tests of P14.1: Next.

func TestExamples(t *testing.T) {
	s := sets.Default()
	nextLike(t, []byte("\x1b(S"), 0, s, api.State{G0: api.Greek, G1: api.Ansel}, 3, api.OK)
	nextLike(t, []byte("\x1b(NA\x1bs"), 0, s, api.State{G0: api.Cyrillic, G1: api.Ansel}, 3, api.OK) // the document's examples 2 to 4
	nextLike(t, []byte("\x1b(NA\x1bs"), 4, api.State{G0: api.Cyrillic, G1: api.Ansel}, s, 2, api.OK)
	nextLike(t, []byte("H\x1bb2\x1bsO"), 1, s, api.State{G0: api.Subscript, G1: api.Ansel}, 2, api.OK)
	nextLike(t, []byte("\x1b$1!0!\x1bs"), 0, s, api.State{G0: api.East, G1: api.Ansel}, 3, api.OK)
}

// One of each set and side, by the api's names.
func TestNextOfEachSet(t *testing.T) {
	s := api.State{G0: 77, G1: 88}
	for text, want := range map[string]api.State{
		"\x1bs": {G0: api.Basic, G1: 88}, "\x1b(B": {G0: api.Basic, G1: 88}, "\x1b-B": {G0: 77, G1: api.Basic},
		"\x1b,!E": {G0: api.Ansel, G1: 88}, "\x1b)!E": {G0: 77, G1: api.Ansel},
		"\x1b(S": {G0: api.Greek, G1: 88}, "\x1b)S": {G0: 77, G1: api.Greek},
		"\x1b(2": {G0: api.Hebrew, G1: 88}, "\x1b-2": {G0: 77, G1: api.Hebrew},
		"\x1b,3": {G0: api.Arabic, G1: 88}, "\x1b)3": {G0: 77, G1: api.Arabic},
		"\x1b(4": {G0: api.MoreArabic, G1: 88}, "\x1b)4": {G0: 77, G1: api.MoreArabic},
		"\x1b(N": {G0: api.Cyrillic, G1: 88}, "\x1b-N": {G0: 77, G1: api.Cyrillic},
		"\x1b,Q": {G0: api.MoreCyrill, G1: 88}, "\x1b)Q": {G0: 77, G1: api.MoreCyrill},
		"\x1b$1": {G0: api.East, G1: 88}, "\x1b$,1": {G0: api.East, G1: 88},
		"\x1b$)1": {G0: 77, G1: api.East}, "\x1b$-1": {G0: 77, G1: api.East},
		"\x1bb": {G0: api.Subscript, G1: 88}, "\x1bp": {G0: api.Superscript, G1: 88},
		"\x1bg": {G0: api.GreekSymbol, G1: 88},
	} {
		nextLike(t, []byte(text), 0, s, want, len(text), api.OK)
	}
	if len(told) != 40 {
		t.Errorf("%d escapes", len(told))
	}
}

// Each escape, wherever it stands, whatever stands around it, from any state.
func TestNextAnywhere(t *testing.T) {
	arounds := []string{"", "a", "\x1b", "(", "$", "!E", "s", "\x1b(S", "\xff\x00", strings.Repeat("\x1b$", 300)}
	for text, m := range told {
		for _, ahead := range arounds {
			for _, behind := range arounds {
				for _, s := range states() {
					b := []byte(ahead + "\x1b" + text + behind)
					nextLike(t, b, len(ahead), s, m.of(s), len(text)+1, api.OK)
				}
			}
		}
	}
}

// All texts of up to three bytes behind a byte 1b, of bytes below 80.
func TestNextOfEveryText(t *testing.T) {
	s := api.State{G0: 77, G1: 88}
	nextAsTold(t, []byte{0x1b}, 0, s)
	for x := range byte(0x80) {
		nextAsTold(t, []byte{0x1b, x}, 0, s)
		for y := range byte(0x80) {
			nextAsTold(t, []byte{0x1b, x, y}, 0, s)
			for z := range byte(0x80) {
				nextAsTold(t, []byte{0x1b, x, y, z}, 0, s)
			}
		}
	}
}

// Each escape with any byte in the place of one of its own, or ahead of one.
func TestNextOfOtherBytes(t *testing.T) {
	s := api.State{G0: 77, G1: 88}
	for text := range told {
		for i := range text {
			for c := range 0x100 {
				other := []byte("\x1b" + text)
				other[i+1] = byte(c)
				nextAsTold(t, other, 0, s)
				nextAsTold(t, slices.Concat([]byte("\x1b"+text[:i]), []byte{byte(c)}, []byte(text[i:])), 0, s)
			}
		}
	}
}

func TestNextOfNoEscape(t *testing.T) {
	for _, text := range []string{
		"\x1b", "\x1b\x1b", "\x1b\x1bs", "\x1b s", "\x1bS", "\x1bB", "\x1bE", "\x1b!E", "\x1b1", "\x1bN", "\x1bP", "\x1bG",
		"\x1b(", "\x1b,", "\x1b)", "\x1b-", "\x1b(!", "\x1b)!", "\x1b(E", "\x1b)E", "\x1b(!B", "\x1b(!S", "\x1b(!!E", "\x1b(E!",
		"\x1b(1", "\x1b,1", "\x1b)1", "\x1b-1", "\x1b(b", "\x1b(p", "\x1b(g", "\x1b(s", "\x1b)s", "\x1b)b", "\x1b-g", "\x1b,p",
		"\x1b$", "\x1b$(", "\x1b$(1", "\x1b$(B", "\x1b$$1", "\x1b$,", "\x1b$)", "\x1b$-", "\x1b$,B", "\x1b$)!E", "\x1b$-S",
		"\x1b$B", "\x1b$s", "\x1b$b", "\x1b$!E", "\x1b$!1", "\x1b$2", "\x1b$),1", "\x1b$,,1", "\x1b($1", "\x1b)$1", "\x1b,$1",
		"\x1b((B", "\x1b()B", "\x1b,-S", "\x1b*B", "\x1b+B", "\x1b.S", "\x1b/N", "\x1b(A", "\x1b(C", "\x1b(n", "\x1b(q", "\x1b(5",
		"\x1b(\xc2", "\x1b\xa8B", "\x1b(\xce", "\x1b\xf3", "\x1b$\xb1",
	} {
		for _, s := range states() {
			nextLike(t, []byte(text), 0, s, s, 0, api.ErrEscape)
			nextLike(t, []byte("ab"+text), 2, s, s, 0, api.ErrEscape)
		}
	}
}

// An escape that is cut off is none, even if the rest stands in the list's
// spare room.
func TestNextCutOff(t *testing.T) {
	for text, m := range told {
		whole := []byte("..\x1b" + text)
		for n := 3; n < len(whole); n++ {
			nextLike(t, whole[:n], 2, m.of(api.State{}), api.State{}, 0, api.ErrEscape)
		}
		nextLike(t, whole[:2], 2, m.of(api.State{}), api.State{}, 0, api.ErrArg)
	}
}

func TestNextWithoutItsFirstByte(t *testing.T) {
	b := []byte("(S\x1b(S\x9b(Sb s$1\x00")
	for _, s := range states() {
		for at := range b {
			if at != 2 {
				nextLike(t, b, at, s, s, 0, api.ErrArg)
			}
		}
		for _, at := range []int{math.MinInt, math.MinInt + 2, math.MinInt32, -2, -1, len(b), len(b) + 1, 1<<32 + 2, math.MaxInt - 3, math.MaxInt} {
			nextLike(t, b, at, s, s, 0, api.ErrArg)
		}
		for _, at := range []int{math.MinInt, -1, 0, 1, math.MaxInt} {
			nextLike(t, nil, at, s, s, 0, api.ErrArg)
			nextLike(t, []byte{}, at, s, s, 0, api.ErrArg)
			nextLike(t, []byte("\x1bs")[:0], at, s, s, 0, api.ErrArg)
		}
	}
}

func TestNextByEveryByte(t *testing.T) {
	for c := range 0x100 {
		if c != 0x1b {
			nextLike(t, []byte{byte(c), '(', 'S'}, 0, sets.Default(), api.State{}, 0, api.ErrArg)
		}
	}
}

// Tests of P14.1: Print.

func TestPrintListed(t *testing.T) {
	s := sets.Default()
	printLike(t, s, s, "")
	printLike(t, s, api.State{G0: api.Subscript, G1: api.Greek}, "\x1bb\x1b)S")
	printLike(t, s, api.State{G0: api.Cyrillic, G1: api.Ansel}, "\x1b(N")
	printLike(t, s, api.State{G0: api.Basic, G1: api.Cyrillic}, "\x1b)N")
	printLike(t, api.State{G0: api.East, G1: api.East}, s, "\x1bs\x1b)!E")
	printLike(t, s, api.State{G0: api.East, G1: api.East}, "\x1b$1\x1b$)1")
	printLike(t, s, api.State{G0: api.Ansel, G1: api.Basic}, "\x1b(!E\x1b)B")
	printLike(t, api.State{}, s, "\x1bs\x1b)!E")
	printLike(t, api.State{G0: -1, G1: api.Greek}, api.State{G0: api.Greek, G1: api.Greek}, "\x1b(S")
}

// A part that may not be is told by nothing, be it the same or not, and
// whatever the other part is.
func TestPrintOfWhatMayNotBe(t *testing.T) {
	for _, to := range []api.State{
		{}, {G0: api.Basic}, {G1: api.Ansel}, {G0: api.Basic, G1: api.Subscript}, {G0: api.Basic, G1: api.Superscript},
		{G0: api.Basic, G1: api.GreekSymbol}, {G0: api.LastSet + 1, G1: api.Ansel}, {G0: api.Basic, G1: api.LastSet + 1},
		{G0: -1, G1: api.Ansel}, {G0: api.Basic, G1: -1}, {G0: math.MinInt, G1: math.MaxInt}, {G0: 1<<32 + 1, G1: 2},
	} {
		for _, from := range append(states(), to, api.State{G0: to.G0, G1: 3}, api.State{G0: 3, G1: to.G1}) {
			printLike(t, from, to, "")
		}
	}
}

// All sets and numbers that are none, from all of them.
func TestPrintOfEveryState(t *testing.T) {
	list := numbers()
	for _, to0 := range list {
		for _, to1 := range list {
			may := to0 >= 1 && to0 <= 12 && to1 >= 1 && to1 <= 9
			for _, from0 := range list {
				for _, from1 := range list {
					want := ""
					if may && from0 != to0 {
						want += printed[0][to0]
					}
					if may && from1 != to1 {
						want += printed[1][to1]
					}
					printLike(t, api.State{G0: from0, G1: from1}, api.State{G0: to0, G1: to1}, want)
				}
			}
		}
	}
}

// Of all escapes of the list the shortest, and of these the least, is printed.
func TestPrintIsTheShortest(t *testing.T) {
	best := map[made]string{}
	for text, m := range told {
		old, ok := best[m]
		if !ok || len(text) < len(old) || len(text) == len(old) && text < old {
			best[m] = text
		}
	}
	if len(best) != 21 {
		t.Errorf("%d sets of sides", len(best))
	}
	for m, text := range best {
		other := 3 // a set that both sides have
		if m.set == 3 {
			other = 4
		}
		from := api.State{G0: other, G1: other}
		printLike(t, from, m.of(from), "\x1b"+text)
	}
}

// What is printed is read again: it makes to of from, with G0's ahead.
func TestThereAndBack(t *testing.T) {
	for n := range 12 * 9 * 12 * 9 {
		from := api.State{G0: n%12 + 1, G1: n/12%9 + 1}
		to := api.State{G0: n/108%12 + 1, G1: n/1296 + 1}
		b := escape.Print(from, to)
		s, at := from, 0
		for at < len(b) {
			before := s
			x, size, f := escape.Next(b, at, s)
			if f.E != api.OK {
				t.Fatalf("from %v to %v: %q: %v", from, to, b, f)
			}
			if at > 0 && x.G0 != before.G0 {
				t.Errorf("from %v to %v: %q: G0's stands behind", from, to, b)
			}
			s, at = x, at+size
		}
		if s != to || at != len(b) {
			t.Errorf("from %v to %v: %q makes %v", from, to, b, s)
		}
	}
}

// Tests of the rules that hold everywhere.

func TestTextsAreNotChanged(t *testing.T) {
	for text := range told {
		for _, behind := range []string{"", "z", "(B"} {
			whole := []byte("..\x1b" + text + behind + "spare room")
			kept := slices.Clone(whole)
			for n := range whole {
				for at := -1; at <= n; at++ {
					escape.Next(whole[:n], at, sets.Default())
				}
			}
			if !bytes.Equal(whole, kept) {
				t.Errorf("%q was changed to %q", kept, whole)
			}
		}
	}
}

// Who spoils one answer spoils no other one, neither one that was given already
// nor one that is still to come.
func TestNewMemory(t *testing.T) {
	for n := range 12 * 9 {
		from, to := api.State{}, api.State{G0: n%12 + 1, G1: n/12 + 1}
		kept := escape.Print(from, to)
		want := string(kept)
		spoiled := escape.Print(from, to)
		spoiled = spoiled[:cap(spoiled)]
		for i := range spoiled {
			spoiled[i] = '#'
		}
		if string(kept) != want {
			t.Errorf("to %v: escapes are shared", to)
		}
		printLike(t, from, to, want)
	}
}

// What was asked before makes no difference.
func TestSameAgain(t *testing.T) {
	for range 3 {
		for text, m := range told {
			for _, s := range states() {
				escape.Next([]byte("\x1b$("), 0, s)
				nextLike(t, []byte("\x1b"+text), 0, s, m.of(s), len(text)+1, api.OK)
			}
		}
	}
}
