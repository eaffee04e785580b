package latin_test

import (
	"math"
	"testing"

	"amanuensis/class"
	"amanuensis/latin"
)

// toldAnsel is the chapter's list by numbers alone: letters that look alike,
// and those that could be written as two, are told from each other here.
var toldAnsel = map[int]rune{
	0x21: 0x0141, // Ł
	0x22: 0x00d8, // Ø
	0x23: 0x0110, // Đ, not the Icelandic one
	0x24: 0x00de, // Þ
	0x25: 0x00c6, // Æ
	0x26: 0x0152, // Œ
	0x27: 0x02b9,
	0x28: 0x00b7,
	0x29: 0x266d,
	0x2a: 0x00ae, // ®
	0x2b: 0x00b1, // ±
	0x2c: 0x01a0, // Ơ
	0x2d: 0x01af, // Ư
	0x2e: 0x02bc,
	0x30: 0x02bb,
	0x31: 0x0142, // ł
	0x32: 0x00f8, // ø
	0x33: 0x0111, // đ
	0x34: 0x00fe, // þ
	0x35: 0x00e6, // æ
	0x36: 0x0153, // œ
	0x37: 0x02ba,
	0x38: 0x0131, // ı
	0x39: 0x00a3, // £
	0x3a: 0x00f0, // ð, the Icelandic one
	0x3c: 0x01a1, // ơ
	0x3d: 0x01b0, // ư
	0x40: 0x00b0, // °, no ring of a letter
	0x41: 0x2113,
	0x42: 0x2117,
	0x43: 0x00a9, // ©
	0x44: 0x266f,
	0x45: 0x00bf, // ¿
	0x46: 0x00a1, // ¡
	0x47: 0x00df, // ß, not β
	0x48: 0x20ac, // €
	0x60: 0x0309,
	0x61: 0x0300,
	0x62: 0x0301,
	0x63: 0x0302,
	0x64: 0x0303,
	0x65: 0x0304,
	0x66: 0x0306,
	0x67: 0x0307,
	0x68: 0x0308,
	0x69: 0x030c,
	0x6a: 0x030a,
	0x6b: 0xfe20,
	0x6c: 0xfe21,
	0x6d: 0x0315,
	0x6e: 0x030b,
	0x6f: 0x0310,
	0x70: 0x0327,
	0x71: 0x0328,
	0x72: 0x0323,
	0x73: 0x0324,
	0x74: 0x0325,
	0x75: 0x0333,
	0x76: 0x0332,
	0x77: 0x0326,
	0x78: 0x031c,
	0x79: 0x032e,
	0x7a: 0xfe22,
	0x7b: 0xfe23,
	0x7e: 0x0313,
}

// ascii is every character that Basic has, from 21 on.
const ascii = "!\"#$%&'()*+,-./" +
	"0123456789:;<=>?" +
	"@ABCDEFGHIJKLMNO" +
	"PQRSTUVWXYZ[\\]^_" +
	"`abcdefghijklmno" +
	"pqrstuvwxyz{|}~"

func toldBasic() map[int]rune {
	told := map[int]rune{}
	for i, r := range ascii {
		told[0x21+i] = r
	}
	return told
}

type call func(int) (rune, bool)

// like holds a call's answer against what is wanted, 0 for none.
func like(t *testing.T, name string, f call, n int, want rune) {
	t.Helper()
	if r, ok := f(n); r != want || ok != (want != 0) {
		t.Errorf("%s(%x): %x, %v, not %x", name, n, r, ok, want)
	}
}

// each runs a test with both calls, and what the chapter tells of them.
func each(t *testing.T, test func(t *testing.T, name string, f call, told map[int]rune)) {
	test(t, "Basic", latin.Basic, toldBasic())
	test(t, "Ansel", latin.Ansel, toldAnsel)
}

// Tests of P9.1.

func TestExamples(t *testing.T) {
	like(t, "Ansel", latin.Ansel, 0x61, 0x300)
	like(t, "Ansel", latin.Ansel, 0x62, 0x301) // the document's e2 65 is é
	like(t, "Basic", latin.Basic, 0x65, 'e')
}

func TestEveryNumberIsAsTold(t *testing.T) {
	each(t, func(t *testing.T, name string, f call, told map[int]rune) {
		for n := -0x20000; n < 0x20000; n++ {
			like(t, name, f, n, told[n])
		}
	})
}

func TestHowManyThereAre(t *testing.T) {
	for name, want := range map[string]int{"Basic": 94, "Ansel": 65} {
		f := map[string]call{"Basic": latin.Basic, "Ansel": latin.Ansel}[name]
		count := 0
		for n := range 0x100 {
			if _, ok := f(n); ok {
				count++
			}
		}
		if count != want {
			t.Errorf("%s: %d, not %d", name, count, want)
		}
	}
}

func TestNumbersAheadAndBehind(t *testing.T) {
	each(t, func(t *testing.T, name string, f call, told map[int]rune) {
		for _, n := range []int{0, 0x1b, 0x20, 0x7f, 0x80, 0xa0, 0xff} {
			like(t, name, f, n, 0)
		}
		like(t, name, f, 0x21, told[0x21])
		like(t, name, f, 0x7e, told[0x7e])
	})
}

// Numbers of Ansel that the list has no character for, some of which other
// books have one for.
func TestNoneInAnsel(t *testing.T) {
	for _, n := range []int{0x2f, 0x3b, 0x3e, 0x3f, 0x49, 0x4f, 0x50, 0x5f, 0x7c, 0x7d} {
		like(t, "Ansel", latin.Ansel, n, 0)
	}
}

func TestNumbersAtTheirEnds(t *testing.T) {
	each(t, func(t *testing.T, name string, f call, _ map[int]rune) {
		for _, n := range []int{
			math.MinInt, math.MinInt + 1, math.MinInt + 0x61, math.MinInt32, math.MinInt32 + 0x61,
			math.MaxInt32, math.MaxInt32 + 1, 1 << 32, math.MaxInt - 1, math.MaxInt,
		} {
			like(t, name, f, n, 0)
		}
	})
}

// Numbers whose lower bits are those of a character's number are others; so is
// that of the same character on the other side, 80 above.
func TestNumbersWithLowerBitsOfOneThatIs(t *testing.T) {
	each(t, func(t *testing.T, name string, f call, told map[int]rune) {
		for n := range told {
			for bit := 7; bit < 64; bit++ {
				like(t, name, f, n|1<<bit, 0)
			}
			like(t, name, f, -n, 0)
			like(t, name, f, ^n, 0)
		}
	})
}

// A character has one number in a set.
func TestNoCharacterTwice(t *testing.T) {
	each(t, func(t *testing.T, name string, f call, _ map[int]rune) {
		numbers := map[rune]int{}
		for n := 0x21; n <= 0x7e; n++ {
			r, ok := f(n)
			if ok && numbers[r] != 0 {
				t.Errorf("%s: %x is %x and %x", name, r, numbers[r], n)
			}
			numbers[r] = n
		}
	})
}

// Marks are Ansel's from 60 on, and no others of both sets.
func TestMarks(t *testing.T) {
	each(t, func(t *testing.T, name string, f call, _ map[int]rune) {
		for n := 0x21; n <= 0x7e; n++ {
			r, ok := f(n)
			if want := ok && name == "Ansel" && n >= 0x60; class.Mark(r) != want {
				t.Errorf("%s(%x): is %x a mark: %v", name, n, r, !want)
			}
		}
	})
}

// Tests of the rules that hold everywhere.

func TestSameAgain(t *testing.T) {
	each(t, func(t *testing.T, name string, f call, told map[int]rune) {
		for n := 0x7f; n >= 0x20; n-- {
			like(t, name, f, n, told[n])
			like(t, name, f, n, told[n])
		}
	})
}
