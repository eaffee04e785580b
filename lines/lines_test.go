package lines_test

import (
	"math"
	"slices"
	"testing"

	"amanuensis/lines"
)

// told is a number and its character.
type told struct {
	n int
	r rune
}

func all(t lines.Text) []told {
	var list []told
	for n, r := range t.Numbers {
		list = append(list, told{n, r})
	}
	return list
}

func TestNumbers(t *testing.T) {
	for text, want := range map[lines.Text][]told{
		"":                           nil,
		"\n":                         nil,
		"\n\n \n":                    nil,
		"21":                         nil,
		"21 - -":                     nil,
		"21 a":                       {{0x21, 'a'}},
		"21 0061":                    {{0x21, 'a'}},
		"21 A F 0":                   {{0x21, 'A'}, {0x22, 'F'}, {0x23, '0'}},
		"6F FE20 00AB":               {{0x6f, 0xfe20}, {0x70, 0xab}},
		"2A - é - 002D -":            {{0x2b, 0xe9}, {0x2d, '-'}},
		"40 一 \U00020000 1234":       {{0x40, 0x4e00}, {0x41, 0x20000}, {0x42, 0x1234}},
		"\n70 x\n\n21 - y\n":         {{0x70, 'x'}, {0x22, 'y'}},
		"7E x\n7F y\n":               {{0x7e, 'x'}, {0x7f, 'y'}},
		"30 -\n30 00BB\n":            {{0x30, 0xbb}},
		"  21   a  -  c  \n22  b \n": {{0x21, 'a'}, {0x23, 'c'}, {0x22, 'b'}},
	} {
		if got := all(text); !slices.Equal(got, want) {
			t.Errorf("%q: %x, not %x", text, got, want)
		}
	}
}

// Whoever is told may have heard enough at any number: no more is told then.
func TestNumbersEnd(t *testing.T) {
	const text lines.Text = "\n21 a - b\n30 - c d\n"
	whole := all(text)
	for stop := range whole {
		var list []told
		for n, r := range text.Numbers {
			list = append(list, told{n, r})
			if len(list) > stop {
				break
			}
		}
		if !slices.Equal(list, whole[:stop+1]) {
			t.Errorf("up to %d: %x", stop, list)
		}
	}
}

func TestLine(t *testing.T) {
	const text lines.Text = "\n21 a - b\n\n30 -\n31 00BB FE20\n  40 c d  \n50\n60 e"
	told := map[int]lines.Text{
		0x21: "21 a - b", 0x22: "21 a - b", 0x23: "21 a - b",
		0x30: "30 -",
		0x31: "31 00BB FE20", 0x32: "31 00BB FE20",
		0x40: "  40 c d  ", 0x41: "  40 c d  ",
		0x60: "60 e",
	}
	for n := -0x200; n < 0x400; n++ {
		if got := text.Line(n); got != told[n] {
			t.Errorf("%x: %q, not %q", n, got, told[n])
		}
	}
	for _, n := range []int{math.MinInt, math.MinInt + 0x21, math.MinInt32, math.MaxInt32, 1<<32 + 0x21, math.MaxInt} {
		if got := text.Line(n); got != "" {
			t.Errorf("%x: %q", n, got)
		}
	}
}

func TestLineOfNone(t *testing.T) {
	for _, text := range []lines.Text{"", "\n", " \n\n", "21", "21\n", "0"} {
		for n := -1; n < 0x80; n++ {
			if got := text.Line(n); got != "" {
				t.Errorf("%q, %x: %q", text, n, got)
			}
		}
	}
}

// Each number is told with its line alone as it is with all of them.
func TestLineHasItsNumbers(t *testing.T) {
	const text lines.Text = "\n21 a - 0062 - -\n30 - c\n32 d - e\n"
	for n, r := range text.Numbers {
		if list := all(text.Line(n)); !slices.Contains(list, told{n, r}) {
			t.Errorf("%x: %x", n, list)
		}
	}
}
