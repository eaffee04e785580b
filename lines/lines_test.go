package lines_test

import (
	"math"
	"slices"
	"testing"

	"amanuensis/lines"
)

const text lines.Text = `
20    -   é 0061    A    0    -  一 𠀀 FE20 00AB    F   Я    - 002D    a    -
30    - 1234    -    -    -    -    -    -    -    -    -    -    -    - 00BB  €
40 0301    -    -    -    -    -    -    -    -    -    -    -    -    -    -    b
`

// characters are the text's, from 20 (hexadecimal) on, 0 for none.
var characters = []rune{
	0, 0xe9, 'a', 'A', '0', 0, 0x4e00, 0x20000, 0xfe20, 0xab, 'F', 0x42f, 0, '-', 'a', 0,
	0, 0x1234, 0, 0, 0, 0, 0, 0, 0, 0, 0, 0, 0, 0, 0xbb, 0x20ac,
	0x301, 0, 0, 0, 0, 0, 0, 0, 0, 0, 0, 0, 0, 0, 0, 'b',
}

// told is a number and its character.
type told struct {
	n int
	r rune
}

func from(t lines.Text, n int) []told {
	var list []told
	for n, r := range t.From(n).Numbers {
		list = append(list, told{n, r})
	}
	return list
}

// wanted are the text's numbers from n on.
func wanted(n int) []told {
	var list []told
	for i, r := range characters {
		if n >= 0x20 && 0x20+i >= n {
			list = append(list, told{0x20 + i, r})
		}
	}
	return list
}

func TestFrom(t *testing.T) {
	for n := -0x200; n < 0x400; n++ {
		if got := from(text, n); !slices.Equal(got, wanted(n)) {
			t.Errorf("%x: %x, not %x", n, got, wanted(n))
		}
	}
	for _, n := range []int{math.MinInt, math.MinInt + 0x20, math.MinInt32, math.MaxInt32, 1<<32 + 0x21, math.MaxInt - 0x20, math.MaxInt} {
		if got := from(text, n); len(got) != 0 {
			t.Errorf("%x: %x", n, got)
		}
	}
}

func TestFromOfNone(t *testing.T) {
	for _, none := range []lines.Text{"", "\n", "20", "\n20"} {
		for n := -1; n < 0x80; n++ {
			if got := from(none, n); len(got) != 0 {
				t.Errorf("%q, %x: %x", none, n, got)
			}
		}
	}
}

// The last line is as well without an end.
func TestFromWithoutEnd(t *testing.T) {
	for _, n := range []int{0x20, 0x4f} {
		if got := from(text[:len(text)-1], n); !slices.Equal(got, wanted(n)) {
			t.Errorf("%x: %x, not %x", n, got, wanted(n))
		}
	}
}

// Whoever is told may have heard enough at any number: no more is told then.
func TestNumbersEnd(t *testing.T) {
	for stop := 0x20; stop < 0x50; stop++ {
		var list []told
		for n, r := range text.From(0x20).Numbers {
			list = append(list, told{n, r})
			if n == stop {
				break
			}
		}
		if !slices.Equal(list, wanted(0x20)[:stop-0x1f]) {
			t.Errorf("up to %x: %x", stop, list)
		}
	}
}
