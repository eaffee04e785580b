package sets_test

import (
	"bytes"
	"math"
	"slices"
	"testing"

	"amanuensis/api"
	"amanuensis/sets"
)

// toldLasts are the chapter's last bytes, by the sets' numbers in the document.
var toldLasts = map[int]string{
	1: "B", 2: "!E", 3: "S", 4: "2", 5: "3", 6: "4", 7: "N", 8: "Q", 9: "1",
	10: "b", 11: "p", 12: "g",
}

// toldEscapes answers all escapes that the chapter has for a side and a set, in
// the order of its words; none where it has none.
func toldEscapes(side, set int) [][]byte {
	heads := map[int][]string{}
	for s := 1; s <= 8; s++ {
		heads[s] = [][]string{{"(", ","}, {")", "-"}}[side]
	}
	heads[9] = [][]string{{"$", "$,"}, {"$)", "$-"}}[side]
	if side == 0 {
		heads[10], heads[11], heads[12] = []string{""}, []string{""}, []string{""}
	}
	var all [][]byte
	for _, h := range heads[set] {
		all = append(all, []byte("\x1b"+h+toldLasts[set]))
	}
	if side == 0 && set == 1 {
		all = append(all, []byte("\x1bs"))
	}
	return all
}

// toldDesignate answers the shortest escape, of these the least, by holding all
// of them against each other.
func toldDesignate(side, set int) []byte {
	if side != 0 && side != 1 {
		return nil
	}
	all := toldEscapes(side, set)
	if len(all) == 0 {
		return nil
	}
	return slices.MinFunc(all, func(a, b []byte) int {
		if len(a) != len(b) {
			return len(a) - len(b)
		}
		return bytes.Compare(a, b)
	})
}

// numbers are all numbers around the sets and the sides, and those at the ends
// of their type or with a set's lower bits.
func numbers() []int {
	list := []int{
		math.MinInt, math.MinInt + 1, math.MinInt + 9, math.MinInt32, math.MinInt32 + 1,
		math.MaxInt32, math.MaxInt32 + 1, 1<<32 + 1, 1<<32 + 12, 1 << 32, math.MaxInt - 1, math.MaxInt,
	}
	for n := -0x210; n <= 0x210; n++ {
		list = append(list, n)
	}
	return list
}

func designateLike(t *testing.T, side, set int, want string) {
	t.Helper()
	e, ok := sets.Designate(side, set)
	if string(e) != want || ok != (want != "") {
		t.Errorf("side %d, set %d: %q, %v, not %q", side, set, e, ok, want)
	}
}

func TestFinal(t *testing.T) {
	for set, want := range map[int]byte{
		api.Basic: 'B', api.Ansel: 'E', api.Greek: 'S', api.Hebrew: '2', api.Arabic: '3', api.MoreArabic: '4',
		api.Cyrillic: 'N', api.MoreCyrill: 'Q', api.East: '1',
		api.Subscript: 'b', api.Superscript: 'p', api.GreekSymbol: 'g',
	} {
		if c, ok := sets.Final(set); c != want || !ok {
			t.Errorf("%d: %q, %v, not %q", set, c, ok, want)
		}
	}
	for _, set := range numbers() {
		if set >= 1 && set <= 12 {
			continue
		}
		if c, ok := sets.Final(set); c != 0 || ok {
			t.Errorf("%d: %q, %v, and is no set", set, c, ok)
		}
	}
}

func TestSides(t *testing.T) {
	for _, set := range numbers() {
		var want []int
		switch {
		case set >= 1 && set <= 9:
			want = []int{0, 1}
		case set >= 10 && set <= 12:
			want = []int{0}
		}
		if l := sets.Sides(set); !slices.Equal(l, want) {
			t.Errorf("%d: %v, not %v", set, l, want)
		}
	}
}

func TestDesignateListed(t *testing.T) {
	for set, want := range map[int][2]string{
		api.Basic:       {"\x1bs", "\x1b)B"},
		api.Ansel:       {"\x1b(!E", "\x1b)!E"},
		api.Greek:       {"\x1b(S", "\x1b)S"},
		api.Hebrew:      {"\x1b(2", "\x1b)2"},
		api.Arabic:      {"\x1b(3", "\x1b)3"},
		api.MoreArabic:  {"\x1b(4", "\x1b)4"},
		api.Cyrillic:    {"\x1b(N", "\x1b)N"},
		api.MoreCyrill:  {"\x1b(Q", "\x1b)Q"},
		api.East:        {"\x1b$1", "\x1b$)1"},
		api.Subscript:   {"\x1bb", ""},
		api.Superscript: {"\x1bp", ""},
		api.GreekSymbol: {"\x1bg", ""},
	} {
		designateLike(t, 0, set, want[0])
		designateLike(t, 1, set, want[1])
	}
}

func TestDesignateLikeTold(t *testing.T) {
	for _, set := range numbers() {
		for _, side := range numbers() {
			designateLike(t, side, set, string(toldDesignate(side, set)))
		}
	}
}

// TestDesignateBySides: a set has an escape just for the sides that it has, and
// the escape ends with the last byte, but for the short one of Basic.
func TestDesignateBySides(t *testing.T) {
	for _, set := range numbers() {
		for side := -2; side <= 3; side++ {
			e, ok := sets.Designate(side, set)
			if ok != slices.Contains(sets.Sides(set), side) {
				t.Errorf("side %d, set %d: %v", side, set, ok)
			}
			c, _ := sets.Final(set)
			if ok && string(e) != "\x1bs" && e[len(e)-1] != c {
				t.Errorf("side %d, set %d: %q does not end with %q", side, set, e, c)
			}
		}
	}
}

func TestDefault(t *testing.T) {
	if s := sets.Default(); s != (api.State{G0: 1, G1: 2}) {
		t.Errorf("%v", s)
	}
}

// spoil fills a list, its spare room included.
func spoil[T any](l []T, with T) {
	l = l[:cap(l)]
	for i := range l {
		l[i] = with
	}
}

// TestNewMemory: who spoils one answer spoils no other one, neither one that
// was given already nor one that is still to come.
func TestNewMemory(t *testing.T) {
	for set := 1; set <= 12; set++ {
		kept := sets.Sides(set)
		want := slices.Clone(kept)
		spoil(sets.Sides(set), 77)
		if !slices.Equal(kept, want) || !slices.Equal(sets.Sides(set), want) {
			t.Errorf("set %d: sides are shared", set)
		}
		for side := 0; side <= 1; side++ {
			kept, _ := sets.Designate(side, set)
			want := string(kept)
			spoiled, _ := sets.Designate(side, set)
			spoil(spoiled, '#')
			again, _ := sets.Designate(side, set)
			if string(kept) != want || string(again) != want {
				t.Errorf("side %d, set %d: escapes are shared", side, set)
			}
		}
	}
}
