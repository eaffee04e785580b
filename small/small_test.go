package small_test

import (
	"math"
	"testing"

	"amanuensis/api"
	"amanuensis/class"
	"amanuensis/small"
	"amanuensis/utf"
)

// told is all that the chapter tells, number by number.
var told = map[int]map[int]rune{
	api.Subscript: {
		0x28: 0x208d, 0x29: 0x208e, 0x2b: 0x208a, 0x2d: 0x208b,
		0x30: 0x2080, 0x31: 0x2081, 0x32: 0x2082, 0x33: 0x2083, 0x34: 0x2084,
		0x35: 0x2085, 0x36: 0x2086, 0x37: 0x2087, 0x38: 0x2088, 0x39: 0x2089,
	},
	api.Superscript: {
		0x28: 0x207d, 0x29: 0x207e, 0x2b: 0x207a, 0x2d: 0x207b,
		0x30: 0x2070, 0x31: 0x00b9, 0x32: 0x00b2, 0x33: 0x00b3, 0x34: 0x2074,
		0x35: 0x2075, 0x36: 0x2076, 0x37: 0x2077, 0x38: 0x2078, 0x39: 0x2079,
	},
	api.GreekSymbol: {
		0x61: 0x03b1, 0x62: 0x03b2, 0x63: 0x03b3,
	},
}

// like holds an answer against what is wanted, 0 for none.
func like(t *testing.T, set, n int, want rune) {
	t.Helper()
	if r, ok := small.Rune(set, n); r != want || ok != (want != 0) {
		t.Errorf("Rune(%d, %x): %x, %v, not %x", set, n, r, ok, want)
	}
}

// farNumbers are numbers at the ends of their types, some with the lower bits
// of small ones.
func farNumbers() []int {
	return []int{
		math.MinInt, math.MinInt + 1, math.MinInt + api.Subscript, math.MinInt + 0x32,
		math.MinInt32 - 1, math.MinInt32, math.MinInt32 + 0x32,
		math.MaxInt32 - 1, math.MaxInt32, math.MaxInt32 + 1, math.MaxUint32,
		1 << 32, 1<<32 + api.Subscript, 1<<32 + 0x32, 1<<32 + 0x61, math.MaxInt - 1, math.MaxInt,
	}
}

// Tests of P11.1.

func TestExamples(t *testing.T) {
	like(t, api.Subscript, 0x32, 0x2082) // the document's H₂O, too
}

func TestEveryNumberIsAsTold(t *testing.T) {
	for set := -0x20; set < 0x80; set++ {
		for n := -0x200; n < 0x400; n++ {
			like(t, set, n, told[set][n])
		}
	}
}

func TestHowManyThereAre(t *testing.T) {
	for set, want := range map[int]int{api.Subscript: 14, api.Superscript: 14, api.GreekSymbol: 3} {
		count := 0
		for n := range 0x100 {
			if _, ok := small.Rune(set, n); ok {
				count++
			}
		}
		if count != want {
			t.Errorf("set %d: %d, not %d", set, count, want)
		}
	}
}

// What stands ahead, between and behind is none: the equals sign, which other
// books have a small one for, and the answers' own numbers among it.
func TestNoneBeside(t *testing.T) {
	for set, none := range map[int][]int{
		api.Subscript:   {0x27, 0x2a, 0x2c, 0x2e, 0x2f, 0x3a, 0x3d, 0x61, 0x2080, 0x208c},
		api.Superscript: {0x27, 0x2a, 0x2c, 0x2e, 0x2f, 0x3a, 0x3d, 0x69, 0x6e, 0xb2, 0x2070, 0x207c},
		api.GreekSymbol: {0x28, 0x30, 0x32, 0x41, 0x42, 0x43, 0x60, 0x64, 0x3b1, 0x3b4},
	} {
		for _, n := range append(none, -1, 0, 0x1b, 0x20, 0x21, 0x7e, 0x7f, 0x80, 0xa0, 0xff) {
			like(t, set, n, 0)
		}
	}
}

// Sets of other layers, and numbers that are no sets, the sets' last bytes
// among them.
func TestOtherSets(t *testing.T) {
	others := append(farNumbers(), -api.Subscript, -1, 0, api.Basic, api.Ansel, api.Greek, api.Hebrew,
		api.Arabic, api.MoreArabic, api.Cyrillic, api.MoreCyrill, api.East, api.LastSet+1, 'b', 'p', 'g')
	for _, set := range others {
		for n := 0x20; n < 0x80; n++ {
			like(t, set, n, 0)
		}
	}
}

func TestNumbersAtTheirEnds(t *testing.T) {
	for _, n := range farNumbers() {
		for set := range told {
			like(t, set, n, 0)
		}
		for _, set := range farNumbers() {
			like(t, set, n, 0)
		}
	}
}

// Numbers whose lower bits are those of a set's or a character's number are
// others; so is that of the same character on the other side, 80 above.
func TestNumbersWithLowerBitsOfOneThatIs(t *testing.T) {
	for set, characters := range told {
		for n := range characters {
			for bit := 7; bit < 64; bit++ {
				like(t, set, n|1<<bit, 0)
			}
			like(t, set, -n, 0)
			like(t, set, ^n, 0)
			for bit := 4; bit < 64; bit++ {
				like(t, set|1<<bit, n, 0)
			}
			like(t, -set, n, 0)
			like(t, ^set, n, 0)
		}
	}
}

// Which is the set, and which the number, is not the same.
func TestSetAndNumberAreNotExchanged(t *testing.T) {
	for set, characters := range told {
		for n := range characters {
			like(t, n, set, 0)
		}
	}
}

// A character has one number in one of the sets; each is a scalar, and none is
// a mark.
func TestNoCharacterTwice(t *testing.T) {
	codes := map[rune]api.Code{}
	for set := range told {
		for n := 0x21; n <= 0x7e; n++ {
			r, ok := small.Rune(set, n)
			if !ok {
				continue
			}
			if before, twice := codes[r]; twice || !utf.Scalar(r) || class.Mark(r) {
				t.Errorf("Rune(%d, %x): %x; ahead of it: %v", set, n, r, before)
			}
			codes[r] = api.Code{Set: set, N: n}
		}
	}
}

// Tests of the rules that hold everywhere.

func TestSameAgain(t *testing.T) {
	for n := 0x7f; n >= 0x20; n-- {
		for set := api.LastSet; set >= 0; set-- {
			like(t, set, n, told[set][n])
			like(t, set, n, told[set][n])
		}
	}
}
