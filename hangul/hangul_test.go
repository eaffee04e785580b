package hangul_test

import (
	"math"
	"slices"
	"testing"

	"amanuensis/hangul"
)

type pair struct{ a, b rune }

// toldSplits answers all syllables with their parts, by counting: the leading
// ones, the vowels and the trailing ones from the first to the last one.
func toldSplits(t *testing.T) map[rune][]rune {
	splits := map[rune][]rune{}
	r := rune(0xac00)
	for l := rune(0x1100); l <= 0x1112; l++ {
		for v := rune(0x1161); v <= 0x1175; v++ {
			splits[r] = []rune{l, v}
			r++
			for e := rune(0x11a8); e <= 0x11c2; e++ {
				splits[r] = []rune{l, v, e}
				r++
			}
		}
	}
	if len(splits) != 11172 || r != 0xac00+11172 {
		t.Fatalf("%d syllables, up to %x", len(splits), r)
	}
	return splits
}

// toldJoins answers the pairs that are joined: of each syllable the last part,
// and what the parts ahead of it are.
func toldJoins(t *testing.T) map[pair]rune {
	joins := map[pair]rune{}
	var open rune
	splits := toldSplits(t)
	for r := rune(0xac00); r <= 0xd7a3; r++ {
		p := splits[r]
		if len(p) == 2 {
			open = r
			joins[pair{p[0], p[1]}] = r
		} else {
			joins[pair{open, p[2]}] = r
		}
	}
	if len(joins) != 11172 {
		t.Fatalf("%d pairs", len(joins))
	}
	return joins
}

// splitLike holds Split and Syllable against the parts that are wanted, none
// for what is no syllable. The first fault ends the test: there may be millions.
func splitLike(t *testing.T, r rune, want ...rune) {
	t.Helper()
	if l := hangul.Split(r); !slices.Equal(l, want) {
		t.Fatalf("%x: %x, not %x", r, l, want)
	}
	if s := hangul.Syllable(r); s != (len(want) > 0) {
		t.Fatalf("%x: syllable %v", r, s)
	}
}

// joinLike holds Join against what is wanted, 0 for two that are not joined.
func joinLike(t *testing.T, a, b, want rune) {
	t.Helper()
	if r, ok := hangul.Join(a, b); r != want || ok != (want != 0) {
		t.Fatalf("%x and %x: %x, %v, not %x", a, b, r, ok, want)
	}
}

// ends are numbers at the ends of their type, and of what may be a character.
var ends = []rune{
	math.MinInt32, math.MinInt32 + 0xac00, math.MinInt32 + 0x1100, -0x110000, -0xac00, -0x1100, -1,
	0, 1, 0xd800, 0xdfff, 0x10ffff, 0x110000, math.MaxInt32 - 0xac00, math.MaxInt32,
}

// Tests of P5.1: Split and Syllable.

func TestSplitByHand(t *testing.T) {
	for r, want := range map[rune][]rune{
		0xac00: {0x1100, 0x1161},
		0xac01: {0x1100, 0x1161, 0x11a8},
		0xac1b: {0x1100, 0x1161, 0x11c2},
		0xac1c: {0x1100, 0x1162},
		0xae30: {0x1100, 0x1175},
		0xae4b: {0x1100, 0x1175, 0x11c2},
		0xae4c: {0x1101, 0x1161},
		0xd55c: {0x1112, 0x1161, 0x11ab}, // han
		0xae00: {0x1100, 0x1173, 0x11af}, // geul
		0xd788: {0x1112, 0x1175},
		0xd7a3: {0x1112, 0x1175, 0x11c2},
	} {
		splitLike(t, r, want...)
	}
}

func TestEveryNumberIsSplitAsTold(t *testing.T) {
	splits := toldSplits(t)
	for r := rune(-0x110000); r < 0x220000; r++ {
		splitLike(t, r, splits[r]...)
	}
}

// Parts are no syllables, nor is what Unicode has beside them.
func TestNoSyllables(t *testing.T) {
	for _, r := range ends {
		splitLike(t, r)
	}
	for _, r := range []rune{
		'a', 0xe9, 0x301, 0x1100, 0x1112, 0x1161, 0x1175, 0x11a7, 0x11a8, 0x11c2, 0x3131, 0x4e00,
		0xa960, 0xabff, 0xd7a4, 0xd7b0, 0xffa1,
	} {
		splitLike(t, r)
	}
}

// Numbers whose lower bits are those of a syllable are other ones, or none.
func TestNumbersWithASyllablesLowerBits(t *testing.T) {
	for r := range toldSplits(t) {
		for bit := 16; bit < 32; bit++ {
			splitLike(t, r|1<<bit)
		}
		splitLike(t, -r)
	}
}

// Tests of P5.1: Join.

func TestJoinByHand(t *testing.T) {
	joinLike(t, 0x1100, 0x1161, 0xac00)
	joinLike(t, 0x1100, 0x1175, 0xae30)
	joinLike(t, 0x1101, 0x1162, 0xae68)
	joinLike(t, 0x1112, 0x1161, 0xd558)
	joinLike(t, 0x1112, 0x1175, 0xd788)
	joinLike(t, 0xac00, 0x11a8, 0xac01)
	joinLike(t, 0xac00, 0x11c2, 0xac1b)
	joinLike(t, 0xd558, 0x11ab, 0xd55c)
	joinLike(t, 0xd788, 0x11c2, 0xd7a3)
}

func TestNotJoined(t *testing.T) {
	for _, p := range []pair{
		{0x10ff, 0x1161}, {0x1113, 0x1161}, // beside the leading ones
		{0x1100, 0x1160}, {0x1100, 0x1176}, // beside the vowels
		{0xac00, 0x11a7}, {0xac00, 0x11c3}, // beside the trailing ones: 11A7 is none
		{0xabff, 0x11a8}, {0xd7a4, 0x11a8}, // beside the syllables
		{0xabe4, 0x11a8},                                     // as far below the first one as a vowel is wide
		{0xac01, 0x11a8}, {0xac1b, 0x11a8}, {0xd7a3, 0x11c2}, // these have a trailing one
		{0x1161, 0x1100}, {0x11a8, 0xac00}, // the other way round
		{0x1100, 0x11a8}, {0x1161, 0x11a8}, // parts that do not follow each other
		{0x1100, 0x1100}, {0x1161, 0x1161}, {0x11a8, 0x11a8},
		{0xac00, 0x1161}, {0xac00, 0x1100}, {0xac00, 0xac00}, {0x1100, 0xac00},
		{0xa960, 0x1161}, {0x1100, 0xd7b0}, {0xac00, 0xd7cb}, // parts that Unicode has beside
		{'e', 0x301}, {0x304b, 0x3099}, // chapter 4's
	} {
		joinLike(t, p.a, p.b, 0)
	}
}

// Every number from ahead of the leading ones to behind the syllables, with
// every number around the parts that stand behind.
func TestEveryTwoAreJoinedAsTold(t *testing.T) {
	joins := toldJoins(t)
	for a := rune(0x1000); a < 0xd900; a++ {
		for b := rune(0x1140); b < 0x1200; b++ {
			joinLike(t, a, b, joins[pair{a, b}])
		}
	}
}

func TestEveryNumberBehindSomeThatAreJoined(t *testing.T) {
	joins := toldJoins(t)
	for _, a := range []rune{0x1100, 0x1109, 0x1112, 0xac00, 0xac01, 0xac1c, 0xc544, 0xd788, 0xd7a3} {
		for b := rune(-0x10000); b < 0x120000; b++ {
			joinLike(t, a, b, joins[pair{a, b}])
		}
	}
}

func TestEveryNumberAheadOfSomeThatAreJoined(t *testing.T) {
	joins := toldJoins(t)
	for _, b := range []rune{0x1161, 0x116b, 0x1175, 0x11a7, 0x11a8, 0x11b5, 0x11c2} {
		for a := rune(-0x10000); a < 0x120000; a++ {
			joinLike(t, a, b, joins[pair{a, b}])
		}
	}
}

func TestNumbersWithLowerBitsOfAPair(t *testing.T) {
	for p := range toldJoins(t) {
		for bit := 16; bit < 32; bit++ {
			joinLike(t, p.a|1<<bit, p.b, 0)
			joinLike(t, p.a, p.b|1<<bit, 0)
			joinLike(t, p.a|1<<bit, p.b|1<<bit, 0)
		}
		joinLike(t, p.b, p.a, 0)
		joinLike(t, -p.a, p.b, 0)
		joinLike(t, p.a, -p.b, 0)
	}
}

func TestEndsAreNotJoined(t *testing.T) {
	for _, a := range ends {
		for _, b := range append([]rune{0x1100, 0x1161, 0x11a7, 0x11a8, 0xac00, 0xac01}, ends...) {
			joinLike(t, a, b, 0)
			joinLike(t, b, a, 0)
		}
	}
}

// Parts that are joined one by one are the syllable that was split.
func TestJoinUndoesSplit(t *testing.T) {
	for r := rune(0xac00); r <= 0xd7a3; r++ {
		parts := hangul.Split(r)
		if len(parts) < 2 {
			t.Fatalf("%x: %x", r, parts)
		}
		whole := parts[0]
		for _, p := range parts[1:] {
			var ok bool
			if whole, ok = hangul.Join(whole, p); !ok {
				t.Errorf("%x: %x is not joined", r, p)
			}
		}
		if whole != r {
			t.Errorf("%x: %x", r, whole)
		}
	}
}

// Tests of the rules that hold everywhere.

func TestPartsAreNewMemory(t *testing.T) {
	for _, r := range []rune{0xac00, 0xac01, 0xd7a3} {
		first, second := hangul.Split(r), hangul.Split(r)
		was := slices.Clone(second)
		clear(first[:cap(first)])
		if !slices.Equal(second, was) {
			t.Errorf("shared: %x", second)
		}
		splitLike(t, r, was...)
	}
}
