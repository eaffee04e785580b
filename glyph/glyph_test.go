package glyph_test

import (
	"cmp"
	"math"
	"slices"
	"sync"
	"testing"

	"amanuensis/api"
	"amanuensis/eacc"
	"amanuensis/glyph"
	"amanuensis/latin"
	"amanuensis/scripts"
	"amanuensis/small"
)

// counts are how many codes the chapters tell of each set, and how many
// characters of all sets together.
var counts = map[int]int{
	api.Basic: 94, api.Ansel: 65, api.Greek: 73, api.Hebrew: 76, api.Arabic: 83, api.MoreArabic: 77,
	api.Cyrillic: 94, api.MoreCyrill: 42, api.East: 354, api.Subscript: 14, api.Superscript: 14, api.GreekSymbol: 3,
}

const characters = 896

// shared are all characters of the chapters that have more than one code,
// without the digits and signs of ASCII.
var shared = map[rune][]api.Code{
	0x5b:   {{Set: api.Basic, N: 0x5b}, {Set: api.Arabic, N: 0x5b}, {Set: api.MoreCyrill, N: 0x5b}},
	0x5d:   {{Set: api.Basic, N: 0x5d}, {Set: api.Arabic, N: 0x5d}, {Set: api.MoreCyrill, N: 0x5d}},
	0x5f:   {{Set: api.Basic, N: 0x5f}, {Set: api.MoreCyrill, N: 0x5f}},
	0x300:  {{Set: api.Ansel, N: 0x61}, {Set: api.Greek, N: 0x21}},
	0x301:  {{Set: api.Ansel, N: 0x62}, {Set: api.Greek, N: 0x22}},
	0x308:  {{Set: api.Ansel, N: 0x68}, {Set: api.Greek, N: 0x23}},
	0x313:  {{Set: api.Ansel, N: 0x7e}, {Set: api.Greek, N: 0x25}},
	0x3b1:  {{Set: api.Greek, N: 0x61}, {Set: api.GreekSymbol, N: 0x61}},
	0x3b2:  {{Set: api.Greek, N: 0x62}, {Set: api.GreekSymbol, N: 0x62}},
	0x3b3:  {{Set: api.Greek, N: 0x64}, {Set: api.GreekSymbol, N: 0x63}},
	0x201c: {{Set: api.Greek, N: 0x32}, {Set: api.Arabic, N: 0x7a}},
	0x201d: {{Set: api.Greek, N: 0x33}, {Set: api.Arabic, N: 0x79}},
	0x300c: {{Set: api.East, N: 0x21232a}, {Set: api.East, N: 0x334e21}},
	0x4e00: {{Set: api.East, N: 0x213021}, {Set: api.East, N: 0x273021}},
	0x4e08: {{Set: api.East, N: 0x213024}, {Set: api.East, N: 0x273024}},
	0x4e18: {{Set: api.East, N: 0x21302c}, {Set: api.East, N: 0x27302d}},
}

// signs are ASCII's of the upper two rows, by the sets beside Basic that have
// them; each by its own number.
var signs = map[int]string{
	api.Hebrew:   "!#$%&()*+,./0123456789:;<=>?",
	api.Arabic:   "!\"#$&'()+-./:<=>",
	api.Cyrillic: "!\"#$%&'()*+,-./0123456789:;<=>?",
}

// one asks the layer that the document names for the set.
func one(c api.Code) (rune, bool) {
	switch c.Set {
	case 1:
		return latin.Basic(c.N)
	case 2:
		return latin.Ansel(c.N)
	case 3, 4, 5, 6, 7, 8:
		return scripts.Rune(c.Set, c.N)
	case 9:
		return eacc.Rune(c.N)
	case 10, 11, 12:
		return small.Rune(c.Set, c.N)
	}
	return 0, false
}

// told answers all codes that the layers tell, with their characters: of East
// each number of three bytes is asked for.
var told = sync.OnceValue(func() map[api.Code]rune {
	all := map[api.Code]rune{}
	add := func(c api.Code) {
		if r, ok := one(c); ok {
			all[c] = r
		}
	}
	for set := 1; set <= 12; set++ {
		for n := range 0x100 {
			add(api.Code{Set: set, N: n})
		}
	}
	for place := range 94 * 94 * 94 {
		add(api.Code{Set: 9, N: (0x21+place/94/94)<<16 | (0x21+place/94%94)<<8 | (0x21 + place%94)})
	}
	return all
})

// toldCodes answers each character's codes, by sets, then numbers.
var toldCodes = sync.OnceValue(func() map[rune][]api.Code {
	codes := map[rune][]api.Code{}
	for c, r := range told() {
		codes[r] = append(codes[r], c)
	}
	for _, list := range codes {
		slices.SortFunc(list, func(a, b api.Code) int {
			if a.Set != b.Set {
				return a.Set - b.Set
			}
			return a.N - b.N
		})
	}
	return codes
})

// like holds a code's answer against what is wanted, 0 for none.
func like(t *testing.T, c api.Code, want rune) {
	t.Helper()
	if r, ok := glyph.Rune(c); r != want || ok != (want != 0) {
		t.Errorf("Rune(%d, %x): %x, %v, not %x", c.Set, c.N, r, ok, want)
	}
}

// codesLike holds a character's codes against those wanted.
func codesLike(t *testing.T, r rune, want ...api.Code) {
	t.Helper()
	if got := glyph.Codes(r); !slices.Equal(got, want) {
		t.Errorf("Codes(%x): %x, not %x", r, got, want)
	}
}

// farNumbers are numbers at the ends of their types, some with the lower bits
// of small ones.
func farNumbers() []int {
	return []int{
		math.MinInt, math.MinInt + 1, math.MinInt + api.Greek, math.MinInt + 0x61, math.MinInt + 0x213021,
		math.MinInt32 - 1, math.MinInt32, math.MinInt32 + api.Greek, math.MinInt32 + 0x61,
		math.MaxInt32 - 1, math.MaxInt32, math.MaxInt32 + 1, math.MaxUint32,
		1 << 32, 1<<32 + api.Greek, 1<<32 + api.East, 1<<32 + 0x61, 1<<32 + 0x213021, math.MaxInt - 1, math.MaxInt,
	}
}

// Tests of P13.1.

func TestExamples(t *testing.T) {
	codesLike(t, 0x301, api.Code{Set: api.Ansel, N: 0x62}, api.Code{Set: api.Greek, N: 0x22})
	like(t, api.Code{Set: api.Ansel, N: 0xe2 - 0x80}, 0x301) // the document's examples 1 to 4
	like(t, api.Code{Set: api.Basic, N: 0x65}, 'e')
	like(t, api.Code{Set: api.Cyrillic, N: 'A'}, 0x430)
	like(t, api.Code{Set: api.Subscript, N: '2'}, 0x2082)
	like(t, api.Code{Set: api.East, N: '!'<<16 | '0'<<8 | '!'}, 0x4e00)
}

// One of each set, and of each set none.
func TestRuneOfEachSet(t *testing.T) {
	for c, want := range map[api.Code]rune{
		{Set: api.Basic, N: 0x20}: 0, {Set: api.Basic, N: 0x21}: 0x21,
		{Set: api.Basic, N: 0x7e}: 0x7e, {Set: api.Basic, N: 0x7f}: 0,
		{Set: api.Ansel, N: 0x21}: 0x141, {Set: api.Ansel, N: 0x2f}: 0, {Set: api.Ansel, N: 0xa1}: 0,
		{Set: api.Greek, N: 0x61}: 0x3b1, {Set: api.Greek, N: 0x40}: 0,
		{Set: api.Hebrew, N: 0x60}: 0x5d0, {Set: api.Hebrew, N: 0x7b}: 0x5f0, {Set: api.Hebrew, N: 0x7e}: 0,
		{Set: api.Arabic, N: 0x41}: 0x621, {Set: api.Arabic, N: 0x40}: 0,
		{Set: api.MoreArabic, N: 0x41}: 0x695, {Set: api.MoreArabic, N: 0x7e}: 0,
		{Set: api.Cyrillic, N: 0x61}: 0x410, {Set: api.Cyrillic, N: 0x7f}: 0,
		{Set: api.MoreCyrill, N: 0x61}: 0x402, {Set: api.MoreCyrill, N: 0x21}: 0,
		{Set: api.East, N: 0x692422}: 0x3042, {Set: api.East, N: 0x692476}: 0, {Set: api.East, N: 0x61}: 0,
		{Set: api.Subscript, N: 0x31}: 0x2081, {Set: api.Subscript, N: 0x61}: 0,
		{Set: api.Superscript, N: 0x31}: 0xb9, {Set: api.Superscript, N: 0x61}: 0,
		{Set: api.GreekSymbol, N: 0x61}: 0x3b1, {Set: api.GreekSymbol, N: 0x31}: 0,
		{Set: 0, N: 0x61}: 0, {Set: -1, N: 0x61}: 0, {Set: api.LastSet + 1, N: 0x61}: 0,
		{Set: 'B', N: 0x61}: 0, {}: 0,
	} {
		like(t, c, want)
	}
}

func TestEveryNumberIsItsLayers(t *testing.T) {
	for set := -0x20; set < 0x20; set++ {
		for n := -0x100; n < 0x200; n++ {
			c := api.Code{Set: set, N: n}
			like(t, c, told()[c])
		}
	}
	for n := range 0x7f7f80 {
		c := api.Code{Set: api.East, N: n}
		if n&0xff < 0x20 || n&0xff > 0x7f {
			continue
		}
		if r, ok := glyph.Rune(c); r != told()[c] || ok != (r != 0) {
			t.Fatalf("Rune of East's %x: %x, %v", n, r, ok)
		}
	}
}

func TestHowManyThereAre(t *testing.T) {
	codes := map[int]int{}
	for _, r := range glyph.Known() {
		for _, c := range glyph.Codes(r) {
			codes[c.Set]++
		}
	}
	for set := 0; set <= api.LastSet; set++ {
		if codes[set] != counts[set] {
			t.Errorf("set %d: %d codes, not %d", set, codes[set], counts[set])
		}
	}
	if n := len(glyph.Known()); n != characters {
		t.Errorf("%d characters", n)
	}
}

// Wherever characters stand, all that are none among them.
func TestEveryCharacterIsAsTold(t *testing.T) {
	codes := toldCodes()
	for _, span := range [][2]rune{
		{-0x100, 0x780}, {0x1e00, 0x1e20}, {0x2000, 0x2180}, {0x2660, 0x2670}, {0x2ff0, 0x3110},
		{0x4df0, 0x52b0}, {0xfb10, 0xfb30}, {0xfe10, 0xfe30}, {0x10ff00, 0x110100},
	} {
		for r := span[0]; r < span[1]; r++ {
			codesLike(t, r, codes[r]...)
		}
	}
	for r, list := range codes {
		codesLike(t, r, list...)
	}
}

func TestCharactersOfSeveralCodes(t *testing.T) {
	want := map[rune][]api.Code{}
	for r := rune('!'); r <= '?'; r++ {
		want[r] = []api.Code{{Set: api.Basic, N: int(r)}}
		for _, set := range []int{api.Hebrew, api.Arabic, api.Cyrillic} {
			if slices.Contains([]rune(signs[set]), r) {
				want[r] = append(want[r], api.Code{Set: set, N: int(r)})
			}
		}
	}
	for r, list := range shared {
		want[r] = list
	}
	for r, list := range want {
		codesLike(t, r, list...)
	}
	for _, r := range glyph.Known() {
		if list := glyph.Codes(r); len(list) > 1 && want[r] == nil {
			t.Errorf("Codes(%x): %x", r, list)
		}
	}
}

// The blank has no code, nor have control characters and characters that are
// two, but for those that a set has as one.
func TestCharactersWithoutCodes(t *testing.T) {
	for _, r := range []rune{
		0, 0x1b, 0x1d, 0x20, 0x7f, 0x88, 0x98, 0x9c, 0xa0, 0xe9, 0x200c, 0x200d, 0xac00, 0x1ea1, 0x2014,
		0x20ad, 0x3094, 0xd800, 0xdfff, 0xfffd, 0xffff, 0x1f600,
	} {
		codesLike(t, r)
		if _, ok := slices.BinarySearch(glyph.Known(), r); ok {
			t.Errorf("%x is known", r)
		}
	}
	for r, c := range map[rune]api.Code{
		0x1a0: {Set: api.Ansel, N: 0x2c}, 0x439: {Set: api.Cyrillic, N: 0x4a}, 0x622: {Set: api.Arabic, N: 0x42},
		0x457: {Set: api.MoreCyrill, N: 0x47}, 0x37e: {Set: api.Greek, N: 0x3f}, 0x304c: {Set: api.East, N: 0x69242c},
	} {
		codesLike(t, r, c)
	}
}

func TestSize(t *testing.T) {
	for set := -0x200; set < 0x400; set++ {
		want := 0
		switch {
		case set == 9:
			want = 3
		case set >= 1 && set <= 12:
			want = 1
		}
		if got := glyph.Size(set); got != want {
			t.Errorf("Size(%d): %d, not %d", set, got, want)
		}
	}
	for _, set := range farNumbers() {
		if got := glyph.Size(set); got != 0 {
			t.Errorf("Size(%d): %d", set, got)
		}
	}
}

// A code's number has as many bytes from 21 to 7E as its set's size tells.
func TestSizeIsThatOfNumbers(t *testing.T) {
	for c := range told() {
		bytes := 0
		for n := c.N; n > 0; n >>= 8 {
			if n&0xff < 0x21 || n&0xff > 0x7e {
				t.Errorf("%d, %x", c.Set, c.N)
			}
			bytes++
		}
		if got := glyph.Size(c.Set); got != bytes {
			t.Errorf("%d, %x: Size: %d", c.Set, c.N, got)
		}
	}
}

func TestKnown(t *testing.T) {
	var want []rune
	for r := range toldCodes() {
		want = append(want, r)
	}
	slices.Sort(want)
	got := glyph.Known()
	if !slices.Equal(got, want) {
		t.Errorf("%x", got)
	}
	for i, r := range got {
		if i > 0 && got[i-1] >= r {
			t.Errorf("%x does not stand behind %x", r, got[i-1])
		}
		if r == 0x20 || len(glyph.Codes(r)) == 0 {
			t.Errorf("%x is known", r)
		}
	}
	if got[0] != '!' || got[len(got)-1] != 0xfe23 {
		t.Errorf("from %x to %x", got[0], got[len(got)-1])
	}
}

func TestThereAndBack(t *testing.T) {
	for c, r := range told() {
		list := glyph.Codes(r)
		if !slices.Contains(list, c) {
			t.Errorf("Codes(%x): %x, without %x", r, list, c)
		}
		for i, c := range list {
			like(t, c, r)
			if i > 0 && cmp.Or(cmp.Compare(list[i-1].Set, c.Set), cmp.Compare(list[i-1].N, c.N)) >= 0 {
				t.Errorf("Codes(%x): %x do not rise", r, list)
			}
		}
	}
}

func TestNumbersAtTheirEnds(t *testing.T) {
	for _, n := range farNumbers() {
		for set := 0; set <= api.LastSet+1; set++ {
			like(t, api.Code{Set: set, N: n}, 0)
		}
		for _, set := range farNumbers() {
			like(t, api.Code{Set: set, N: n}, 0)
		}
		for _, other := range []int{0x21, 0x61, 0x7e, 0x213021} {
			like(t, api.Code{Set: n, N: other}, 0)
		}
	}
	for _, r := range []rune{
		math.MinInt32, math.MinInt32 + 1, math.MinInt32 + 0x61, -0x61, -1,
		api.MaxScalar, api.MaxScalar + 1, math.MaxInt32 - 1, math.MaxInt32,
	} {
		codesLike(t, r)
	}
}

// Numbers whose lower bits are those of a code or a character are others.
func TestNumbersWithLowerBitsOfOneThatIs(t *testing.T) {
	for c := range told() {
		for bit := 24; bit < 64; bit++ {
			like(t, api.Code{Set: c.Set, N: c.N | 1<<bit}, 0)
			like(t, api.Code{Set: c.Set | 1<<bit, N: c.N}, 0)
		}
		like(t, api.Code{Set: c.Set, N: -c.N}, 0)
		like(t, api.Code{Set: c.Set, N: c.N | 0x80}, 0)
		like(t, api.Code{Set: -c.Set, N: c.N}, 0)
		like(t, api.Code{Set: c.N, N: c.Set}, 0)
	}
	for _, r := range []rune{'!', 'a', 0x301, 0x430, 0x5d0, 0x2082, 0x4e00} {
		for bit := 16; bit < 31; bit++ {
			codesLike(t, r|1<<bit)
		}
		codesLike(t, r|math.MinInt32)
	}
}

// Tests of the rules that hold everywhere.

// Who is answered may change the list, and put more behind it.
func TestListsAreNewMemory(t *testing.T) {
	known := glyph.Known()
	first, second := glyph.Known(), glyph.Known()
	for i := range first[:cap(first)] {
		first[:cap(first)][i] = -1
	}
	if !slices.Equal(second, known) || !slices.Equal(glyph.Known(), known) {
		t.Error("Known is another one when an answer was changed")
	}
	for r, want := range toldCodes() {
		first, second := glyph.Codes(r), glyph.Codes(r)
		for i := range first[:cap(first)] {
			first[:cap(first)][i] = api.Code{Set: -1, N: -1}
		}
		if !slices.Equal(second, want) {
			t.Errorf("Codes(%x): %x, when another answer was changed", r, second)
		}
		codesLike(t, r, want...)
	}
}

func TestSameAgain(t *testing.T) {
	known, codes := glyph.Known(), toldCodes()
	for range 50 {
		if !slices.Equal(glyph.Known(), known) {
			t.Fatal("Known is another one")
		}
		for _, r := range []rune{'!', '"', '[', 0x301, 0x3b1, 0x3b3, 0x201d, 0x300c, 0x4e18, 0x20} {
			codesLike(t, r, codes[r]...)
		}
		for _, c := range codes['!'] {
			like(t, c, '!')
		}
	}
}
