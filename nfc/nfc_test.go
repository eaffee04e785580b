package nfc_test

import (
	"math"
	"slices"
	"testing"

	"amanuensis/class"
	"amanuensis/hangul"
	"amanuensis/nfc"
	"amanuensis/nfd"
	"amanuensis/pairs"
)

// joined answers what a and b are by chapter 4 or 5.
func joined(a, b rune) (rune, bool) {
	if c, ok := hangul.Join(a, b); ok {
		return c, true
	}
	return pairs.Join(a, b)
}

// lastStarter answers where the last starter of list stands, -1 if none does.
func lastStarter(list []rune) int {
	i := len(list) - 1
	for i >= 0 && class.Of(list[i]) != 0 {
		i--
	}
	return i
}

// between tells whether one of these has class 0, or one not below that of c.
func between(list []rune, c rune) bool {
	return slices.ContainsFunc(list, func(b rune) bool {
		return class.Of(b) == 0 || class.Of(b) >= class.Of(c)
	})
}

// toldNFC goes through the text that is taken apart by the promise's own words:
// the starter is sought anew for each character, and all between is looked at.
func toldNFC(r []rune) []rune {
	list := nfd.NFD(r)
	for i := 0; i < len(list); {
		s := lastStarter(list[:i])
		if s >= 0 && !between(list[s+1:i], list[i]) {
			if c, ok := joined(list[s], list[i]); ok {
				list[s] = c
				list = slices.Delete(list, i, i+1)
				continue
			}
		}
		i++
	}
	return list
}

// nfcLike holds NFC, Is and Same against the text that is wanted. The first
// fault ends the test: there may be millions.
func nfcLike(t *testing.T, r, want []rune) {
	t.Helper()
	if got := nfc.NFC(r); !slices.Equal(got, want) {
		t.Fatalf("%x: NFC %x, not %x", r, got, want)
	}
	if is := nfc.Is(r); is != slices.Equal(r, want) {
		t.Fatalf("%x: Is %v", r, is)
	}
	if !nfc.Same(r, want) {
		t.Fatalf("%x and %x: not the same", r, want)
	}
}

// eachText tells do all texts of up to length of these characters; a text is
// good till do answers.
func eachText(characters []rune, length int, do func([]rune)) {
	var grow func(text []rune)
	grow = func(text []rune) {
		do(text)
		if len(text) == length {
			return
		}
		for _, c := range characters {
			grow(append(text, c))
		}
	}
	grow(make([]rune, 0, length))
}

// ends are numbers at the ends of their type, and of what may be a character.
var ends = []rune{
	math.MinInt32, math.MinInt32 + 0xe9, -0x110000, -0xe9, -0x301, -1,
	0, 1, 0xd800, 0xdfff, 0xffff, 0x10ffff, 0x110000, 0x100e9, 0x10301, math.MaxInt32,
}

// mixed are letters that take marks and one that does not, marks of several
// classes, two of some of these, what is split, and all kinds of syllables and
// their parts.
var mixed = []rune{
	'e', 'x', 0x301, 0x302, 0x308, 0x323, 0x327, 0x334, 0x345, 0x3099,
	0xe9, 0x1ec7, 0x3b1, 0x212b, 0x344, 0x5d0, 0x5b7, 0x304b,
	0x1100, 0x1161, 0x11a8, 0xac00, 0xac01,
}

// Tests of P7.1: NFC and Is.

func TestPutTogetherByHand(t *testing.T) {
	for _, c := range []struct{ r, want []rune }{
		{[]rune{'e', 0x301}, []rune{0xe9}},
		{[]rune{'e', 0x301, 'x'}, []rune{0xe9, 'x'}},
		{[]rune{'x', 'e', 0x301}, []rune{'x', 0xe9}},
		{[]rune{'e', 0x301, 'e', 0x301, 'a', 0x30a}, []rune{0xe9, 0xe9, 0xe5}},
		{[]rune{0x3b1, 0x342}, []rune{0x1fb6}},
		{[]rune{0x438, 0x306}, []rune{0x439}},
		{[]rune{0x627, 0x653, 0x64a, 0x654}, []rune{0x622, 0x626}},
		{[]rune{0x304b, 0x3099, 0x306f, 0x309a, 0x30a6, 0x3099}, []rune{0x304c, 0x3071, 0x30f4}},
		// what is joined is joined again
		{[]rune{'e', 0x323, 0x302}, []rune{0x1ec7}},
		{[]rune{'e', 0x302, 0x323}, []rune{0x1ec7}},
		{[]rune{0xea, 0x323}, []rune{0x1ec7}},
		{[]rune{0x1eb9, 0x302}, []rune{0x1ec7}},
		{[]rune{'u', 0x308, 0x301}, []rune{0x1d8}},
		{[]rune{0x3b1, 0x345, 0x301}, []rune{0x1fb4}},
		{[]rune{0x1fb3, 0x342}, []rune{0x1fb7}},
		{[]rune{0x3b9, 0x308, 0x301}, []rune{0x390}},
		{[]rune{'o', 0x323, 0x31b}, []rune{0x1ee3}},
		// past a mark of a lower class
		{[]rune{'a', 0x334, 0x301}, []rune{0xe1, 0x334}},
		{[]rune{'a', 0x301, 0x334}, []rune{0xe1, 0x334}},
		{[]rune{'x', 0x334, 0x323, 0x307}, []rune{0x1e8b, 0x334, 0x323}},
		{[]rune{'e', 0x334, 0x323, 0x302}, []rune{0x1ec7, 0x334}},
		{[]rune{'e', 0x316, 0x301, 0x345}, []rune{0xe9, 0x316, 0x345}},
		{[]rune{0x3b1, 0x323, 0x301, 0x345}, []rune{0x1fb4, 0x323}},
		{[]rune{0x304b, 0x334, 0x3099, 0x301}, []rune{0x304c, 0x334, 0x301}},
		{[]rune{0x627, 0x64b, 0x652, 0x654}, []rune{0x623, 0x64b, 0x652}},
		{[]rune{0xe9, 0x323}, []rune{0x1eb9, 0x301}},
		{[]rune{0x1ec7, 0x334, 0x302, 0x323}, []rune{0x1ec7, 0x334, 0x323, 0x302}},
		// syllables
		{[]rune{0x1100, 0x1161}, []rune{0xac00}},
		{[]rune{0x1100, 0x1161, 0x11a8}, []rune{0xac01}},
		{[]rune{0xac00, 0x11a8}, []rune{0xac01}},
		{[]rune{0xac00, 0x11a8, 0x11a8}, []rune{0xac01, 0x11a8}},
		{[]rune{0x1100, 0x1161, 0x1161}, []rune{0xac00, 0x1161}},
		{[]rune{0x1100, 0x1100, 0x1161}, []rune{0x1100, 0xac00}},
		{[]rune{0x1112, 0x1175, 0x11c2, 0x1100, 0x1161}, []rune{0xd7a3, 0xac00}},
		{[]rune{0xac01, 0x301}, []rune{0xac01, 0x301}},
		// another one
		{[]rune{0x374, 0x37e, 0x387, 0x212a, 0x2126}, []rune{0x2b9, ';', 0xb7, 'K', 0x3a9}},
		{[]rune{0x212b}, []rune{0xc5}},
		{[]rune{0x212b, 0x323}, []rune{0x1ea0, 0x30a}},
		{[]rune{'e', 0x340, 'e', 0x341}, []rune{0xe8, 0xe9}},
		{[]rune{0x3b1, 0x343}, []rune{0x1f00}},
		{[]rune{'u', 0x344}, []rune{0x1d8}},
		{[]rune{0x2126, 0x301}, []rune{0x38f}},
		{[]rune{0x212a, 0x30c}, []rune{0x1e8}},
		{[]rune{'x', 0x344}, []rune{0x1e8d, 0x301}},
	} {
		nfcLike(t, c.r, c.want)
		nfcLike(t, c.want, c.want)
	}
}

func TestNotPutTogether(t *testing.T) {
	for _, r := range [][]rune{
		// a mark of its own class between them
		{'a', 0x313, 0x301},
		{0xe1, 0x301},
		{0xe9, 0x300},
		{'x', 0x301, 0x307},
		{'x', 0x324, 0x323},
		{0x627, 0x656, 0x655},
		{'h', 0x324, 0x331},
		// a starter between them, whether it is a letter or not
		{'e', 'x', 0x301},
		{'e', 0, 0x301},
		{'e', 0x34f, 0x301},
		{'e', 0x358, 0x301}, // a mark of Unicode's, not of the chapter's
		{'e', -1, 0x301},
		{'e', 0xac00, 0x301},
		{0x1100, 'x', 0x1161},
		// a mark between parts of a syllable: its class is not below 0
		{0x1100, 0x301, 0x1161},
		{0x1100, 0x334, 0x1161},
		{0xac00, 0x323, 0x11a8},
		{0xac00, 0x3099, 0x11a8},
		// no starter ahead
		{0x301},
		{0x308, 0x301},
		{0x323, 0x301, 0x345},
		{0x334, 0x301, 'e'},
		// the other way round
		{0x301, 'e'},
		{0x1161, 0x1100},
		{0x11a8, 0xac00},
		// split, but not joined
		{0x308, 0x301, 'a'},
		{0x5d0, 0x5b7},
		{0x5d0, 0x5b8},
		// no pair that is, or no part of a syllable
		{'x', 0x301},
		{'e', 0x334},
		{';', 0}, {0x300, 0}, {0x2b9, 0}, {0xc5, 0},
		{'e', 'e'},
		{0x1100, 0x11a8},
		{0xac01, 0x11a8},
		{0xac00, 0x11a7},
		{0xac00, 0x1161},
		{0x1113, 0x1161},
		// what Unicode joins and the chapters do not
		{'g', 0x327}, {'=', 0x338}, {'s', 0x326}, {0xe7, 0x301}, {0x1eb, 0x304}, {0x1f60, 0x301},
		{0x1f00, 0x301}, {0x391, 0x313}, {0xa8, 0x301}, {0x6d5, 0x654}, {0x3046, 0x3099}, {0x928, 0x93c},
		// nothing to be joined
		[]rune("A plain text; 123"),
		{0xe6, 0xf8, 0x142, 0x131, 0x44f, 0x4e00, 0x1f600},
		{'x'},
		{},
		nil,
	} {
		nfcLike(t, r, r)
	}
}

// What was one and was not joined comes out in parts, in order.
func TestComesOutApart(t *testing.T) {
	for _, c := range []struct{ r, want []rune }{
		{[]rune{0x344}, []rune{0x308, 0x301}},
		{[]rune{0x344, 0x323}, []rune{0x323, 0x308, 0x301}},
		{[]rune{0xfb2e, 0xfb2f}, []rune{0x5d0, 0x5b7, 0x5d0, 0x5b8}},
		{[]rune{0x340, 0x341, 0x343}, []rune{0x300, 0x301, 0x313}},
		{[]rune{'x', 0x301, 0x323}, []rune{'x', 0x323, 0x301}},
		{[]rune{0x301, 0x323, 'x'}, []rune{0x323, 0x301, 'x'}},
	} {
		nfcLike(t, c.r, c.want)
		nfcLike(t, c.want, c.want)
	}
}

// All that is split, alone: it is itself again, but for what is another one and
// for the three that are not joined.
func TestAllPairsAreThemselves(t *testing.T) {
	others := map[rune][]rune{
		0x340: {0x300}, 0x341: {0x301}, 0x343: {0x313}, 0x344: {0x308, 0x301}, 0x374: {0x2b9}, 0x37e: {';'},
		0x387: {0xb7}, 0x2126: {0x3a9}, 0x212a: {'K'}, 0x212b: {0xc5}, 0xfb2e: {0x5d0, 0x5b7}, 0xfb2f: {0x5d0, 0x5b8},
	}
	for _, c := range pairs.All() {
		want := others[c]
		if want == nil {
			want = []rune{c}
			nfcLike(t, nfd.NFD(want), want)
		}
		nfcLike(t, []rune{c}, want)
		delete(others, c)
	}
	if len(others) != 0 {
		t.Errorf("never split: %x", others)
	}
}

// Of each pair both, with each mark between them.
func TestAllPairsAroundAMark(t *testing.T) {
	for _, c := range pairs.All() {
		a, b, n := pairs.Split(c)
		if n != 2 {
			continue
		}
		nfcLike(t, []rune{a, 'x', b}, toldNFC([]rune{a, 'x', b}))
		for _, m := range class.All() {
			nfcLike(t, []rune{a, m, b}, toldNFC([]rune{a, m, b}))
		}
	}
}

func TestAllSyllables(t *testing.T) {
	for c := rune(0xac00); c <= 0xd7a3; c++ {
		parts := hangul.Split(c)
		nfcLike(t, []rune{c}, []rune{c})
		nfcLike(t, parts, []rune{c})
		nfcLike(t, slices.Concat([]rune{0x1100}, parts, []rune{0x1161, 0x11a8}), []rune{0x1100, c, 0x1161, 0x11a8})
		apart := []rune{parts[0], 0x334, parts[1], 0x11a7}
		nfcLike(t, apart, apart)
		if len(parts) == 3 {
			open := c - (parts[2] - 0x11a7)
			nfcLike(t, []rune{open, parts[2]}, []rune{c})
			nfcLike(t, []rune{open, 0x3099, parts[2]}, []rune{open, 0x3099, parts[2]})
		}
	}
}

func TestEveryNumberIsPutTogether(t *testing.T) {
	for c := rune(-0x1000); c < 0x112000; c++ {
		for _, r := range [][]rune{{c}, {'e', c, 0x301}} {
			if got, want := nfc.NFC(r), toldNFC(r); !slices.Equal(got, want) {
				t.Fatalf("%x: %x, not %x", r, got, want)
			}
		}
	}
}

func TestNFCOfAllShortTexts(t *testing.T) {
	eachText(mixed, 4, func(r []rune) {
		nfcLike(t, r, toldNFC(r))
	})
}

// Texts of up to 7 of few characters, so that much is joined and much is kept
// apart in one text.
func TestNFCOfLongerTexts(t *testing.T) {
	eachText([]rune{'o', 0x323, 0x302, 0x301, 0x31b}, 7, func(r []rune) {
		nfcLike(t, r, toldNFC(r))
	})
}

// What is together is put together no further, and taken apart it is what it
// was.
func TestNFCTwiceIsNFC(t *testing.T) {
	eachText(mixed, 3, func(r []rune) {
		once, apart := nfc.NFC(r), nfd.NFD(r)
		nfcLike(t, once, once)
		nfcLike(t, apart, once)
		if back := nfd.NFD(once); !slices.Equal(back, apart) {
			t.Fatalf("%x: %x, not %x", r, back, apart)
		}
	})
}

func TestNFCOfALongText(t *testing.T) {
	var r, want []rune
	for range 5000 {
		r = append(r, 'e', 0x334, 0x302, 0x323, 0x1100, 0x1161, 0x11a8, 0x212b, 0x301, 'z')
		want = append(want, 0x1ec7, 0x334, 0xac01, 0xc5, 0x301, 'z')
	}
	nfcLike(t, r, want)
	nfcLike(t, want, want)
	// marks in great numbers: the one that is joined stands behind all of a
	// lower class, and ahead of all of its own
	low, same := slices.Repeat([]rune{0x334}, 3000), slices.Repeat([]rune{0x301}, 3000)
	nfcLike(t, slices.Concat([]rune{'e'}, low, same), slices.Concat([]rune{0xe9}, low, same[1:]))
	nfcLike(t, slices.Concat([]rune{'x'}, low, same, []rune{0x307}), slices.Concat([]rune{'x'}, low, same, []rune{0x307}))
	nfcLike(t, slices.Concat(low, same), slices.Concat(low, same))
}

func TestIsByHand(t *testing.T) {
	for _, c := range []struct {
		r    []rune
		want bool
	}{
		{nil, true},
		{[]rune{}, true},
		{[]rune{0xe9}, true},
		{[]rune{'e', 0x301}, false},
		{[]rune("plain, but for one: e\u0301"), false},
		{[]rune{'e', 0x301, 'x'}, false},
		{[]rune{'x', 0x301}, true},
		{[]rune{'x', 0x323, 0x301}, true},
		{[]rune{'x', 0x301, 0x323}, false}, // nothing to join, but not in order
		{[]rune{0xe9, 0x323}, false},       // together, but not so
		{[]rune{0x1eb9, 0x301}, true},
		{[]rune{0x212a}, false}, // of as many characters, but another one
		{[]rune{0x344}, false},
		{[]rune{0x308, 0x301}, true},
		{[]rune{0xfb2e}, false}, // not joined
		{[]rune{0x5d0, 0x5b7}, true},
		{[]rune{0xac00}, true},
		{[]rune{0x1100, 0x1161}, false},
		{[]rune{-1, 0xd800, 0x110000}, true},
	} {
		if is := nfc.Is(c.r); is != c.want {
			t.Errorf("%x: %v", c.r, is)
		}
	}
}

// Tests of P7.1: Same.

func TestSameByHand(t *testing.T) {
	for _, c := range []struct {
		a, b []rune
		want bool
	}{
		{nil, nil, true},
		{nil, []rune{}, true},
		{nil, []rune{'a'}, false},
		{[]rune{'a'}, []rune{'a'}, true},
		{[]rune{'a'}, []rune{'b'}, false},
		{[]rune{'a'}, []rune{'a', 'b'}, false},
		{[]rune{'a', 'b'}, []rune{'b', 'a'}, false},
		{[]rune{'a'}, []rune{'a', 0}, false},
		{[]rune{0xe9}, []rune{'e', 0x301}, true},
		{[]rune{0xe9}, []rune{'e'}, false},
		{[]rune{0xe9}, []rune{'e', 0x300}, false},
		{[]rune{0xe9}, []rune{'E', 0x301}, false},
		{[]rune{0xe9, 0x323}, []rune{0x1eb9, 0x301}, true},
		{[]rune{'x', 0x301, 0x323}, []rune{'x', 0x323, 0x301}, true},
		{[]rune{'x', 0x301, 0x300}, []rune{'x', 0x300, 0x301}, false}, // of one class
		{[]rune{'x', 0x301, 'y', 0x323}, []rune{'x', 0x323, 'y', 0x301}, false},
		{[]rune{0x212b}, []rune{'A', 0x30a}, true},
		{[]rune{0x212b}, []rune{0xc5}, true},
		{[]rune{0x212a}, []rune{'K'}, true},
		{[]rune{0x344}, []rune{0x308, 0x301}, true},
		{[]rune{0x344}, []rune{0x301, 0x308}, false},
		{[]rune{0xfb2e}, []rune{0x5d0, 0x5b7}, true},
		{[]rune{0xfb2e}, []rune{0xfb2f}, false},
		{[]rune{0xac01}, []rune{0x1100, 0x1161, 0x11a8}, true},
		{[]rune{0xac01}, []rune{0xac00, 0x11a8}, true},
		{[]rune{0xac01}, []rune{0xac00}, false},
		{[]rune{0x123}, []rune{'g', 0x327}, false}, // Unicode's alone
		{[]rune{-1}, []rune{-1}, true},
		{[]rune{-1}, []rune{0x10ffff}, false},
	} {
		if s := nfc.Same(c.a, c.b); s != c.want {
			t.Errorf("%x and %x: %v", c.a, c.b, s)
		}
		if s := nfc.Same(c.b, c.a); s != c.want {
			t.Errorf("%x and %x: %v", c.b, c.a, s)
		}
	}
}

// Every two short texts: the same if they are the same put together, and taken
// apart.
func TestSameOfEveryTwoShortTexts(t *testing.T) {
	var texts, apart [][]rune
	eachText(mixed, 2, func(r []rune) {
		texts = append(texts, slices.Clone(r))
		apart = append(apart, nfd.NFD(r))
	})
	for i, a := range texts {
		for k, b := range texts {
			want := slices.Equal(apart[i], apart[k])
			if s := nfc.Same(a, b); s != want || slices.Equal(nfc.NFC(a), nfc.NFC(b)) != want {
				t.Fatalf("%x and %x: %v, not %v", a, b, s, want)
			}
		}
	}
}

// Tests of the rules that hold everywhere.

func TestNumbersThatAreNoCharacters(t *testing.T) {
	nfcLike(t, ends, ends)
	for _, c := range ends {
		nfcLike(t, []rune{c}, []rune{c})
		nfcLike(t, []rune{c, 0x301, 'e', 0x301, c, 0x301, c}, []rune{c, 0x301, 0xe9, c, 0x301, c})
		nfcLike(t, []rune{0x1100, c, 0x1161, c}, []rune{0x1100, c, 0x1161, c})
	}
	for bit := 16; bit < 32; bit++ {
		for _, r := range [][]rune{
			{'e' | 1<<bit, 0x301}, {'e', 0x301 | 1<<bit}, {0x1100 | 1<<bit, 0x1161}, {0x1100, 0x1161 | 1<<bit},
			{0xac00 | 1<<bit, 0x11a8}, {0xac00, 0x11a8 | 1<<bit}, {0xe9 | 1<<bit}, {0x212b | 1<<bit},
		} {
			nfcLike(t, r, r)
		}
	}
}

// some are texts of which all, some, or nothing is changed.
var some = [][]rune{
	{'e', 0x301, 0x323}, {'a', 0x301, 'b'}, {0x1eb9, 0x301}, {'a'}, {0x301}, {0x212a}, {0x1100, 0x1161, 0x11a8}, {'a', 'b', 'c'},
}

func TestWhatIsHandedInStays(t *testing.T) {
	for _, text := range some {
		room := append(slices.Clone(text), 0x301, 0x323, 0x1161, 0xe9)
		was := slices.Clone(room)
		r := room[:len(text)]
		nfc.NFC(r)
		nfc.Is(r)
		nfc.Same(r, r)
		nfc.Same(r, room)
		nfc.Same(room, r)
		if !slices.Equal(room, was) {
			t.Errorf("%x: changed into %x", was, room)
		}
	}
}

func TestAnswersAreNewMemory(t *testing.T) {
	for _, text := range some {
		r := slices.Clone(text)
		first, second := nfc.NFC(r), nfc.NFC(r)
		was := slices.Clone(second)
		clear(first[:cap(first)])
		if !slices.Equal(r, text) || !slices.Equal(second, was) {
			t.Errorf("%x: shared with an answer", text)
		}
		clear(r)
		if !slices.Equal(second, was) {
			t.Errorf("%x: shared with what was handed in", text)
		}
		if again := nfc.NFC(text); !slices.Equal(again, was) {
			t.Errorf("%x: then %x, now %x", text, was, again)
		}
	}
	// no room of what is handed in comes out, either
	room := []rune{0xe9, 0x301, 0x323}
	empty := nfc.NFC(room[:0])
	_ = append(empty, 'x', 'y', 'z')
	if len(empty) != 0 || !slices.Equal(room, []rune{0xe9, 0x301, 0x323}) {
		t.Errorf("of nothing: %x, with %x", empty, room)
	}
}
