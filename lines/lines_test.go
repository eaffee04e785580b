package lines_test

import (
	"slices"
	"testing"

	"amanuensis/lines"
)

// told is a number and its character.
type told struct {
	n int
	r rune
}

func all(t lines.Text) []told {
	var list []told
	for n, r := range t.Numbers {
		list = append(list, told{n, r})
	}
	return list
}

func TestNumbers(t *testing.T) {
	for text, want := range map[lines.Text][]told{
		"":                           nil,
		"\n":                         nil,
		"\n\n \n":                    nil,
		"21":                         nil,
		"21 - -":                     nil,
		"21 a":                       {{0x21, 'a'}},
		"21 0061":                    {{0x21, 'a'}},
		"21 A F 0":                   {{0x21, 'A'}, {0x22, 'F'}, {0x23, '0'}},
		"6F FE20 00AB":               {{0x6f, 0xfe20}, {0x70, 0xab}},
		"2A - é - 002D -":            {{0x2b, 0xe9}, {0x2d, '-'}},
		"40 一 \U00020000 1234":       {{0x40, 0x4e00}, {0x41, 0x20000}, {0x42, 0x1234}},
		"\n70 x\n\n21 - y\n":         {{0x70, 'x'}, {0x22, 'y'}},
		"7E x\n7F y\n":               {{0x7e, 'x'}, {0x7f, 'y'}},
		"30 -\n30 00BB\n":            {{0x30, 0xbb}},
		"  21   a  -  c  \n22  b \n": {{0x21, 'a'}, {0x23, 'c'}, {0x22, 'b'}},
	} {
		if got := all(text); !slices.Equal(got, want) {
			t.Errorf("%q: %x, not %x", text, got, want)
		}
	}
}

// Whoever is told may have heard enough at any number: no more is told then.
func TestNumbersEnd(t *testing.T) {
	const text lines.Text = "\n21 a - b\n30 - c d\n"
	whole := all(text)
	for stop := range whole {
		var list []told
		for n, r := range text.Numbers {
			list = append(list, told{n, r})
			if len(list) > stop {
				break
			}
		}
		if !slices.Equal(list, whole[:stop+1]) {
			t.Errorf("up to %d: %x", stop, list)
		}
	}
}
