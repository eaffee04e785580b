package class_test

import (
	"math"
	"regexp"
	"slices"
	"strconv"
	"strings"
	"testing"

	"amanuensis/class"
)

// words are the chapter's own: classes, and behind each its marks.
const words = `
230: 0300 to 0314, 033D to 0344, 0346, 034A to 034C, 0350 to 0352, 0357, 035B, 0363 to 036F, FE20 to FE23
232: 0315, 031A; 216: 031B; 202: 0321, 0322, 0327, 0328
220: 0316 to 0319, 031C to 0320, 0323 to 0326, 0329 to 0333, 0339 to 033C, 0347 to 0349, 034D, 034E, 0353 to 0356
1: 0334 to 0338; 240: 0345; 233: 035C, 035F, 0362; 234: 035D, 035E, 0360, 0361
10 to 18: 05B0 to 05B8, one each; 19: 05B9, 05BA; 20: 05BB; 21: 05BC; 22: 05BD; 23: 05BF; 24: 05C1; 25: 05C2; 26: FB1E
27 to 34: 064B to 0652, one each; 230: 0653, 0654; 220: 0655, 0656; 35: 0670
8: 3099, 309A
`

// one is a number, or the first and the last one of several.
var one = regexp.MustCompile(`^([0-9A-F]+)(?: to ([0-9A-F]+))?$`)

func numbers(t *testing.T, text string, base int) (first, last int) {
	found := one.FindStringSubmatch(text)
	if found == nil {
		t.Fatalf("%q: no numbers", text)
	}
	if found[2] == "" {
		found[2] = found[1]
	}
	var ends [2]int
	for i, s := range found[1:] {
		n, err := strconv.ParseInt(s, base, 32)
		if err != nil {
			t.Fatal(err)
		}
		ends[i] = int(n)
	}
	return ends[0], ends[1]
}

// told answers the classes of all marks, by the chapter's words.
func told(t *testing.T) map[rune]int {
	classes := map[rune]int{}
	for _, group := range strings.Split(strings.ReplaceAll(strings.TrimSpace(words), "\n", "; "), "; ") {
		number, marks, _ := strings.Cut(group, ": ")
		marks, oneEach := strings.CutSuffix(marks, ", one each")
		low, high := numbers(t, number, 10)
		c := low
		for _, part := range strings.Split(marks, ", ") {
			first, last := numbers(t, part, 16)
			if oneEach && last-first != high-low || !oneEach && high != low {
				t.Fatalf("%q: so many classes for other marks", group)
			}
			for r := first; r <= last; r++ {
				if classes[rune(r)] != 0 {
					t.Fatalf("%x: told twice", r)
				}
				classes[rune(r)] = c
				if oneEach {
					c++
				}
			}
		}
	}
	return classes
}

// edges are where a class begins or ends, and what stands beside it.
var edges = []struct {
	r     rune
	class int
}{
	{0x2ff, 0}, {0x300, 230}, {0x301, 230}, {0x314, 230}, {0x315, 232}, {0x316, 220},
	{0x319, 220}, {0x31a, 232}, {0x31b, 216}, {0x31c, 220}, {0x320, 220}, {0x321, 202},
	{0x322, 202}, {0x323, 220}, {0x326, 220}, {0x327, 202}, {0x328, 202}, {0x329, 220},
	{0x333, 220}, {0x334, 1}, {0x338, 1}, {0x339, 220}, {0x33c, 220}, {0x33d, 230},
	{0x344, 230}, {0x345, 240}, {0x346, 230}, {0x347, 220}, {0x34a, 230}, {0x34c, 230},
	{0x34d, 220}, {0x34e, 220}, {0x34f, 0}, {0x350, 230}, {0x353, 220}, {0x356, 220},
	{0x357, 230}, {0x358, 0}, {0x35a, 0}, {0x35b, 230}, {0x35c, 233}, {0x35d, 234},
	{0x35e, 234}, {0x35f, 233}, {0x360, 234}, {0x361, 234}, {0x362, 233}, {0x363, 230},
	{0x36f, 230}, {0x370, 0},
	{0x5af, 0}, {0x5b0, 10}, {0x5b1, 11}, {0x5b5, 15}, {0x5b8, 18}, {0x5b9, 19}, {0x5ba, 19},
	{0x5bb, 20}, {0x5bc, 21}, {0x5bd, 22}, {0x5be, 0}, {0x5bf, 23}, {0x5c0, 0}, {0x5c1, 24},
	{0x5c2, 25}, {0x5c3, 0},
	{0x64a, 0}, {0x64b, 27}, {0x64c, 28}, {0x650, 32}, {0x652, 34}, {0x653, 230}, {0x654, 230},
	{0x655, 220}, {0x656, 220}, {0x657, 0}, {0x66f, 0}, {0x670, 35}, {0x671, 0},
	{0x3098, 0}, {0x3099, 8}, {0x309a, 8}, {0x309b, 0},
	{0xfb1d, 0}, {0xfb1e, 26}, {0xfb1f, 0},
	{0xfe1f, 0}, {0xfe20, 230}, {0xfe23, 230}, {0xfe24, 0},
}

// starters are no marks here, though some of them are Unicode's.
var starters = []rune{
	0, 1, ' ', 'a', 'z', 0x7f, 0xe9, 0x41f, 0x4e00, 0xac00, 0x10ffff,
	0x483, 0x591, 0x5c4, 0x5c7, 0x610, 0x6d6, 0x93c, 0x1ab0, 0x1dc0, 0x20d0, 0x302a, 0xfe24, 0x1d165,
	0xd800, 0xdfff, 0x110000, -1, -0x300, -0x301, math.MinInt32, math.MaxInt32,
}

// like holds Of and Mark against the class that is wanted.
func like(t *testing.T, r rune, want int) {
	t.Helper()
	if c := class.Of(r); c != want {
		t.Errorf("%x: class %d, not %d", r, c, want)
	}
	if m := class.Mark(r); m != (want > 0) {
		t.Errorf("%x: mark %v", r, m)
	}
}

// Tests of P3.1: Of and Mark.

func TestClassesAtTheEdges(t *testing.T) {
	for _, e := range edges {
		like(t, e.r, e.class)
	}
}

func TestStartersHaveNone(t *testing.T) {
	for _, r := range starters {
		like(t, r, 0)
	}
}

func TestEveryNumber(t *testing.T) {
	classes := told(t)
	for r := rune(-0x110000); r < 0x220000; r++ {
		like(t, r, classes[r])
	}
}

// Numbers whose lower bits are those of a mark are other characters, or none.
func TestNumbersWithAMarksLowerBits(t *testing.T) {
	for r := range told(t) {
		for high := int32(math.MinInt16); high <= math.MaxInt16; high++ {
			if high != 0 {
				like(t, high<<16|r, 0)
			}
		}
	}
}

// Tests of P3.1: All.

func TestAllAreTheMarks(t *testing.T) {
	var want []rune
	for r := range told(t) {
		want = append(want, r)
	}
	slices.Sort(want)
	if list := class.All(); !slices.Equal(list, want) {
		t.Errorf("%x, not %x", list, want)
	}
}

// Tests of the rules that hold everywhere.

func TestAllIsNewMemory(t *testing.T) {
	first, second := class.All(), class.All()
	was := slices.Clone(second)
	clear(first[:cap(first)])
	if !slices.Equal(second, was) || !slices.Equal(class.All(), was) {
		t.Errorf("shared: %x", second)
	}
	like(t, 0x301, 230)
}
