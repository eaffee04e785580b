package write_test

import (
	"math"
	"slices"
	"strings"
	"testing"

	"amanuensis/api"
	"amanuensis/class"
	"amanuensis/glyph"
	"amanuensis/nfc"
	"amanuensis/nfd"
	"amanuensis/read"
	"amanuensis/write"
)

// noScalars are numbers that are no characters, and those at the type's ends.
var noScalars = []rune{0xd800, 0xdbff, 0xdc00, 0xdfff, 0x110000, math.MaxInt32, math.MinInt32, -1, -'e', 0x10000000 + 'e'}

func encodeLike(t *testing.T, r []rune, want string) {
	t.Helper()
	if b, f := write.Encode(r); string(b) != want || f != (api.Fault{}) {
		t.Errorf("Encode(%x): %q %v, not %q", r, b, f, want)
	}
}

func faultLike(t *testing.T, r []rune, e api.Errno, at int) {
	t.Helper()
	if b, f := write.Encode(r); len(b) != 0 || f != (api.Fault{E: e, At: at}) {
		t.Errorf("Encode(%x): %q %v, not %d at %d", r, b, f, e, at)
	}
}

func canLike(t *testing.T, c []rune, want bool) {
	t.Helper()
	if got := write.Can(c); got != want {
		t.Errorf("Can(%x): %t", c, got)
	}
}

func lessLike(t *testing.T, a, b string, want bool) {
	t.Helper()
	if got := write.Less([]byte(a), []byte(b)); got != want {
		t.Errorf("Less(%q, %q): %t", a, b, got)
	}
}

// times answers a character with n of one mark on it.
func times(base rune, n int, mark rune) []rune {
	return append([]rune{base}, slices.Repeat([]rune{mark}, n)...)
}

// eachText tells do all texts of the pieces up to a length.
func eachText[T any](pieces []T, length int, do func([]T)) {
	texts := [][]T{nil}
	for range length + 1 {
		var longer [][]T
		for _, text := range texts {
			do(text)
			for _, p := range pieces {
				longer = append(longer, append(slices.Clone(text), p))
			}
		}
		texts = longer
	}
}

// P17.1, Less.

func TestLessByHand(t *testing.T) {
	for _, c := range []struct {
		a, b string
		want bool
	}{
		{"", "", false},
		{"", "\x00", true},
		{"\x00", "", false},
		{"b", "aa", true},
		{"aa", "b", false},
		{"\xff", "\x00\x00", true},
		{"a", "b", true},
		{"b", "a", false},
		{"a", "a", false},
		{"\x7f", "\x80", true},
		{"\x80", "\x7f", false},
		{"\x00", "\xff", true},
		{"ab", "ac", true},
		{"ac", "ab", false},
		{"bz", "ca", true},
		{"ca", "bz", false},
		{"abcdefgx", "abcdefgy", true},
		{"abcdefgy", "abcdefgx", false},
		{"xbcdefga", "abcdefgb", false},
		{"a\x00", "a", false},
		{"a", "a\x00", true},
	} {
		lessLike(t, c.a, c.b, c.want)
	}
	if write.Less(nil, nil) || write.Less(nil, []byte{}) || write.Less([]byte{}, nil) || !write.Less(nil, []byte{0}) || write.Less([]byte{0}, nil) {
		t.Error("nil and empty lists")
	}
}

// All texts of a few bytes, told with the shorter ones first, and those of one
// length rising: each is less than all that come behind it.
func TestLessIsTheOrderOfTexts(t *testing.T) {
	var list []string
	eachText([]byte{0, 1, 'a', 0x7f, 0x80, 0xff}, 3, func(b []byte) { list = append(list, string(b)) })
	for i, a := range list {
		for j, b := range list {
			lessLike(t, a, b, i < j)
		}
	}
}

// What stands in spare room behind a text is nothing.
func TestLessWithSpareRoom(t *testing.T) {
	long := []byte("aba\x00ab")
	if write.Less(long[:2], long[4:]) || write.Less(long[4:], long[:2]) || !write.Less(long[:1], long[1:2]) || !write.Less(long[:3:3], long[:4]) {
		t.Error("spare room counts")
	}
}

// P17.1, Can.

func TestCanByHand(t *testing.T) {
	for _, c := range [][]rune{
		{'a'}, {' '}, {0x98}, {0x9c}, {0x200c}, {0x200d}, {0x3000}, {0x4e00}, {0x430}, {0x2082}, {0xb2}, {0x20ac},
		{'e', 0x301}, {'e', 0x323, 0x302}, {'u', 0x31b, 0x301}, {0x438, 0x306}, {0x3000, 0x301}, {';'}, {0xb7}, {0x2b9},
		{0x627, 0x653}, {0x30a6, 0x3099}, {0x5d0, 0x5b7}, {'a', 0x345},
		times('a', 6, 0x301), times(0x438, 7, 0x306), times(0x438, 6, 0x301), append(times(0x438, 6, 0x306), 0x301),
		{'x', 0x5b0, 0x5b1, 0x5b2, 0x5b3, 0x5b4, 0x5b5}, append(times('o', 1, 0x31b), slices.Repeat([]rune{0x301}, 6)...),
	} {
		canLike(t, c, true)
	}
	for _, c := range [][]rune{
		nil, {}, {0x301}, {0x301, 0x302}, {0xe9}, {0x439}, {0x37e}, {0x387}, {0x374}, {'a', 'b'}, {'a', ' '}, {'e', 0x302, 0x323},
		{' ', 0x301}, {0x98, 0x301}, {0x200d, 0x301}, {'\n'}, {0x1b}, {0x7f}, {0x80}, {0xa0}, {0x88}, {0x8d}, {0}, {0x1100},
		{0xac00}, {0x11a8}, {'a', 0x305}, {'a', 0x305, 0x301}, {'a', 0x301, 0x305}, {0x531}, {'a', 0x653}, {0x10ffff}, {0x3099}, {0x30ab, 0x305},
		times('a', 7, 0x301), times(0x438, 8, 0x306), times(0x438, 7, 0x301), append(times(0x438, 1, 0x301), slices.Repeat([]rune{0x306}, 6)...),
		times('o', 8, 0x31b), {'e', 0x301, 'a'}, {'e', 0x301, 0x323}, {'e', 0x344}, {'e', 0x341}, {'e', 0x301, 0x341},
	} {
		canLike(t, c, false)
	}
	for _, n := range noScalars {
		canLike(t, []rune{n}, false)
		canLike(t, []rune{'e', n}, false)
		canLike(t, []rune{n, 0x301}, false)
	}
}

// canBe tells whether c can be written: it looks for a character among all that
// have a code.
func canBe(c []rune) bool {
	if len(c) == 0 || class.Mark(c[0]) || !nfd.Is(c) || slices.ContainsFunc(c[1:], func(m rune) bool { return !class.Mark(m) }) {
		return false
	}
	return slices.ContainsFunc(waysOf(c), func(w way) bool { return len(w.rest) <= 6 && !slices.ContainsFunc(w.rest, uncoded) })
}

func TestCanOfShortLists(t *testing.T) {
	eachText([]rune{'e', 0x438, ' ', 0x301, 0x305, 0x306, 0x323, 0xe9, ';', 0x1100}, 4, func(c []rune) { canLike(t, c, canBe(c)) })
	for _, x := range append(glyph.Known(), bare...) {
		c := nfd.NFD([]rune{x})
		canLike(t, c, !class.Mark(x))
		canLike(t, append(slices.Clone(c), 0x301), canBe(append(slices.Clone(c), 0x301)))
	}
}

func TestCanOfManyMarks(t *testing.T) {
	for _, base := range []rune{'e', 0x438, 0x435, 0x627, 0x1100, ' '} {
		eachText([]rune{0x301, 0x306, 0x308, 0x653}, 2, func(marks []rune) {
			for n := range 10 {
				c := append(append([]rune{base}, marks...), slices.Repeat([]rune{0x306}, n)...)
				canLike(t, c, canBe(c))
				c = append(times(base, n, 0x308), marks...)
				canLike(t, c, canBe(c))
			}
		})
	}
}

// P17.2, Encode.

func TestEncodeByHand(t *testing.T) {
	for text, want := range map[string]string{
		"":                     "",
		"é":                    "\xe2e",
		"e\u0301":              "\xe2e",
		"abc, d.":              "abc, d.",
		"\u212b":               "\xeaA",
		"ệ":                    "\xe3\xf2e", // of the orders that mean the same the least
		"x\u0301\u0308":        "\xe2\xe8x", // and those that do not are left
		"x\u0308\u0301":        "\xe8\xe2x",
		"x\u0308\u0323\u0301":  "\xe8\xe2\xf2x",
		"ợ":                    "\xf2\xbc",
		"Ł℗ß":                  "\xa1\xc2\xc7",
		"\u0098a\u009c":        "\x88a\x89",
		"\u200d\u200c":         "\x8d\x8e",
		"а":                    "\x1b(NA\x1bs",
		"абв":                  "\x1b(NABW\x1bs",
		"й":                    "\x1b(NJ\x1bs",
		"и\u0306":              "\x1b(NJ\x1bs",
		"й\u0301":              "\x1b(N\xe2J\x1bs",
		"й\u0306":              "\x1b(N\xe6J\x1bs",
		"ж\u0301\u0308":        "\x1b(N\xe2\xe8V\x1bs",
		"ґ":                    "\x1b(Q@\x1bs",
		"α":                    "\x1bga\x1bs", // three letters alone are shorter than all Greek
		"αβγ":                  "\x1bgabc\x1bs",
		"αδ":                   "\x1b(Sae\x1bs",
		"ά":                    "\x1bg\xe2a\x1bs",
		"άδ":                   "\x1b(S\"ae\x1bs", // a mark of the letter's own set
		"ΐ":                    "\x1b(S#\"l\x1bs",
		"H₂O":                  "H\x1bb2\x1bsO",
		"H₂SO₄":                "H\x1bb2\x1bsSO\x1bb4\x1bs",
		"x²₃":                  "x\x1bp2\x1bb3\x1bs",
		"一":                    "\x1b$1!0!\x1bs",
		"一丁":                   "\x1b$1!0!!0\"\x1bs",
		"「":                    "\x1b$1!#*\x1bs", // two codes
		"が":                    "\x1b$1i$,\x1bs",
		"か\u3099":              "\x1b$1i$,\x1bs",
		"\u3000\u0301":         "\x1b$1\xe2!#!\x1bs",
		"שלום":                 "\x1b(2ylem\x1bs",
		"\u05d1\u05bc\u05b0":   "\x1b(2GKa\x1bs",
		"\u0627\u0653":         "\x1b(3B\x1bs",
		"\u0679":               "\x1b(4$\x1bs",
		";":                    ";",
		"\u037e":               ";",
		"\u0374":               "\xa7",
		"\u0387":               "\xa8",
		"α\u037e":              "\x1bga\x1bs;",
		"α\u037eδ":             "\x1b(Sa?e\x1bs",
		"α\u00b7δ":             "\x1b(Sa;e\x1bs",
		"e\u0306\u0306\u0306ж": "\xe6\xe6\xe6e\x1b(NV\x1bs",
		"a\u0301α":             "\xe2a\x1bga\x1bs",
		"\u02bc":               "\xae",
	} {
		encodeLike(t, []rune(text), want)
	}
	encodeLike(t, nil, "")
	encodeLike(t, []rune{}, "")
}

// An escape's first byte is less than any other byte, so that of texts of one
// length the one is the least whose escapes stand as far ahead as they may: ahead
// of blanks, and of what both sets have.
func TestEscapesStandAhead(t *testing.T) {
	for text, want := range map[string]string{
		" а":         "\x1b(N A\x1bs",
		"а ":         "\x1b(NA\x1bs ",
		" а ":        "\x1b(N A\x1bs ",
		"а б":        "\x1b(NA B\x1bs",
		"1а":         "\x1b(N1A\x1bs",
		"а1":         "\x1b(NA\x1bs1",
		"а1б":        "\x1b(NA1B\x1bs",
		"a1. ж":      "a\x1b(N1. V\x1bs",
		"(ж)":        "\x1b(N(V\x1bs)",
		"é а":        "\xe2e\x1b(N A\x1bs",
		"\u200d一":    "\x1b$1\x8d!0!\x1bs",
		"жéж":        "\x1b(NV\x1bs\xe2e\x1b(NV\x1bs",
		"жaжaж":      "\x1b)N\xd6a\xd6a\xd6\x1b)!E",
		"xжaжaж":     "\x1b)Nx\xd6a\xd6a\xd6\x1b)!E",
		"жaжaжyz":    "\x1b)N\xd6a\xd6a\xd6\x1b)!Eyz",
		"一a丁b三a丁b":   "\x1b$)1\xa1\xb0\xa1a\xa1\xb0\xa2b\xa1\xb0\xa5a\xa1\xb0\xa2\x1b)!Eb",
		"жґжґжґж":    "\x1b(N\x1b)QV\xc0V\xc0V\xc0\x1b)!EV\x1bs",
		"ґжґжґжґ":    "\x1b(N\x1b)Q\xc0V\xc0V\xc0V\x1bs\xc0\x1b)!E",
		"é1жґжґжґж":  "\xe2\x1b)Ne\x1b(Q\xb1\xd6@\xd6@\xd6@\x1bs\xd6\x1b)!E",
		"xαδyαδzαδ":  "\x1b)Sx\xe1\xe5y\xe1\xe5z\xe1\xe5\x1b)!E",
		"xα1δyαδ1z":  "\x1b)Sx\xe11\xe5y\xe1\xe5\x1b)!E1z",
		"Ва\u0301ня": "\x1b(Nw\xe2ANQ\x1bs",
	} {
		encodeLike(t, []rune(text), want)
	}
}

// A character that is one of its parts with a mark may have fewer marks than the
// parts: six may stand on it.
func TestMarksUpToSix(t *testing.T) {
	encodeLike(t, times('e', 6, 0x301), "\xe2\xe2\xe2\xe2\xe2\xe2e")
	encodeLike(t, append([]rune{0xe9}, slices.Repeat([]rune{0x301}, 5)...), "\xe2\xe2\xe2\xe2\xe2\xe2e")
	encodeLike(t, times('ơ', 6, 0x323), "\xf2\xf2\xf2\xf2\xf2\xf2\xbc")
	encodeLike(t, times('и', 7, 0x306), "\x1b(N\xe6\xe6\xe6\xe6\xe6\xe6J\x1bs")
	encodeLike(t, times('и', 6, 0x306), "\x1b(N\xe6\xe6\xe6\xe6\xe6J\x1bs")
	encodeLike(t, []rune{'x', 0x5b5, 0x5b4, 0x5b3, 0x5b2, 0x5b1, 0x5b0}, "\x1b(2CDGHIJ\x1bsx") // six classes
	for n := range 7 {
		encodeLike(t, append(times('e', n, 0x301), 'a'), strings.Repeat("\xe2", n)+"ea")
	}
	for n := 7; n < 20; n++ {
		faultLike(t, times('e', n, 0x301), api.ErrMarks, 0)
		faultLike(t, times('и', n+1, 0x306), api.ErrMarks, 0)
	}
}

func TestEncodeFaults(t *testing.T) {
	for _, c := range []struct {
		text string
		e    api.Errno
		at   int
	}{
		{"a\uac00", api.ErrMap, 1},
		{"\uac01", api.ErrMap, 0},
		{"\u0301", api.ErrMark, 0},
		{"\u0301a", api.ErrMark, 0},
		{"\u0344", api.ErrMark, 0},
		{"\u0305", api.ErrMark, 0}, // a mark without a code, too
		{"\u3099", api.ErrMark, 0},
		{"\u0301\u0301\u0301\u0301\u0301\u0301\u0301", api.ErrMark, 0},
		{"\u0301\n", api.ErrMark, 0},
		{"e\u0301\u0301\u0301\u0301\u0301\u0301\u0301", api.ErrMarks, 0},
		{"é\u0301\u0301\u0301\u0301\u0301\u0301", api.ErrMarks, 0},
		{"é \u0301", api.ErrMap, 2},
		{" \u0301", api.ErrMap, 0},
		{"\u200d\u0301", api.ErrMap, 0},
		{"a\u0098\u0301", api.ErrMap, 1},
		{"\n", api.ErrMap, 0},
		{"a\x1bb", api.ErrMap, 1},
		{"a\x00", api.ErrMap, 1},
		{"\u0080", api.ErrMap, 0},
		{"\u0088", api.ErrMap, 0},
		{"\u00a0", api.ErrMap, 0},
		{"\U0010ffff", api.ErrMap, 0},
		{"e\u0305", api.ErrMap, 0},
		{"e\u0301\u0305", api.ErrMap, 0},
		{"ae\u0305\u0301", api.ErrMap, 1},
		{"e\u0305\u0301\u0301\u0301\u0301\u0301\u0301\u0301", api.ErrMap, 0}, // no way has codes for all
		{"\u0411\u0531", api.ErrMap, 1},
		{"ệ\uac00", api.ErrMap, 3}, // places are those of NFD
		{"\u212b\u0344\u05d0\u0305", api.ErrMap, 4},
		{"éée\u0301\u0301\u0301\u0301\u0301\u0301\u0301\n", api.ErrMarks, 4},
		{"\ne\u0301\u0301\u0301\u0301\u0301\u0301\u0301", api.ErrMap, 0}, // the first of two
		{"ab\uac00\n", api.ErrMap, 2},
		{"\u0301\uac00", api.ErrMark, 0},
		{"ў\uac00", api.ErrMap, 2},
	} {
		faultLike(t, []rune(c.text), c.e, c.at)
	}
}

// What is no scalar is told ahead of all else, by its place in the text as it is.
func TestNoScalars(t *testing.T) {
	for _, n := range noScalars {
		faultLike(t, []rune{n}, api.ErrUTF, 0)
		faultLike(t, []rune{n, n}, api.ErrUTF, 0)
		faultLike(t, []rune{'a', n, 0x301}, api.ErrUTF, 1)
		faultLike(t, []rune{0x1ec7, 0xe9, n}, api.ErrUTF, 2)
		faultLike(t, []rune{0x301, 0xac00, '\n', n, 'a', n}, api.ErrUTF, 3)
		faultLike(t, append(times('e', 7, 0x301), n), api.ErrUTF, 8)
	}
	for _, r := range []rune{0xd7ff, 0xe000, 0x10ffff} { // those beside them
		faultLike(t, []rune{r}, api.ErrMap, 0)
	}
}

// Tests of the rules that hold everywhere.

// some are texts with and without faults.
var some = []string{
	"", "a", "plain text.", "é ệ", "жaжaж1", "xαδ", "一a丁", "H₂O", "e\u0305", "\u0301", "ab\n", "e\u0301\u0301\u0301\u0301\u0301\u0301\u0301", "\u0098",
}

func TestTextsAreNotChanged(t *testing.T) {
	for _, text := range some {
		whole := []rune(text + "\u0302\u0323\u0301 spare room")
		kept := slices.Clone(whole)
		for n := range whole {
			write.Encode(whole[:n])
			write.Can(whole[:n])
		}
		if !slices.Equal(whole, kept) {
			t.Errorf("%x was changed to %x", kept, whole)
		}
	}
	a, b := []byte("abc"), []byte("abd")
	write.Less(a[:2], b[:2])
	if string(a) != "abc" || string(b) != "abd" {
		t.Errorf("%q %q", a, b)
	}
}

// spoil fills a list, its spare room included.
func spoil[T any](list []T, with T) {
	list = list[:cap(list)]
	for i := range list {
		list[i] = with
	}
}

// Who spoils one answer, or what was handed in, spoils no other answer, neither
// one that was given already nor one that is still to come.
func TestNewMemory(t *testing.T) {
	for _, text := range some {
		r := []rune(text)
		kept, fault := write.Encode(r)
		want := string(kept)
		other, _ := write.Encode(r)
		spoil(other, '#')
		spoil(r, '#')
		if string(kept) != want {
			t.Errorf("%q: %q is shared", text, kept)
		}
		spoil(kept, '#')
		if again, f := write.Encode([]rune(text)); string(again) != want || f != fault {
			t.Errorf("%q: %q %v, not %q", text, again, f, want)
		}
	}
}

// Nothing is kept from call to call: not the sets, and not what was found out.
func TestNothingIsKept(t *testing.T) {
	type answer struct {
		text string
		f    api.Fault
		can  bool
	}
	told := map[string]answer{}
	for range 3 {
		for _, text := range some {
			b, f := write.Encode([]rune(text))
			now := answer{string(b), f, write.Can([]rune(text))}
			if before, ok := told[text]; ok && before != now {
				t.Errorf("%q: %v, not %v", text, now, before)
			}
			told[text] = now
			encodeLike(t, []rune("жé"), "\x1b(NV\x1bs\xe2e")
		}
	}
}

// Long texts come out piece by piece, with the sets as they were.
func TestLongTexts(t *testing.T) {
	const times = 3000
	for text, want := range map[string]string{
		"plain text, ":        "plain text, ",
		"ée":                  "\xe2ee",
		"\u200d":              "\x8d",
		"e\u0301\u0323\u0302": "\xe2\xe3\xf2e",
	} {
		encodeLike(t, []rune(strings.Repeat(text, times)), strings.Repeat(want, times))
	}
	encodeLike(t, []rune(strings.Repeat("жук", times)), "\x1b(N"+strings.Repeat("VUK", times)+"\x1bs")
	encodeLike(t, []rune(strings.Repeat("жaук", times)), "\x1b)N"+strings.Repeat("\xd6a\xd5\xcb", times)+"\x1b)!E")
	encodeLike(t, []rune(strings.Repeat("жґ", times)), "\x1b(N\x1b)Q"+strings.Repeat("V\xc0", times-1)+"V\x1bs\xc0\x1b)!E")
	faultLike(t, []rune(strings.Repeat("é", times)+"\n"), api.ErrMap, 2*times)
}

// Each character that has a code is written and read again, between others, too.
func TestEachCharacterComesBack(t *testing.T) {
	for _, x := range append(glyph.Known(), bare...) {
		for _, text := range [][]rune{{'a', x}, {'я', 'я', x, 'я'}, {'一', 'b', x, 'ب'}} {
			b, f := write.Encode(text)
			r, g := read.Text(b)
			if f.E != api.OK || g.E != api.OK || !nfc.Same(r, text) {
				t.Errorf("%x: %q %v, read as %x %v", text, b, f, r, g)
			}
		}
	}
}
