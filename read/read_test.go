package read_test

import (
	"bytes"
	"math"
	"math/rand"
	"slices"
	"strings"
	"testing"

	"amanuensis/api"
	"amanuensis/class"
	"amanuensis/glyph"
	"amanuensis/read"
)

// usual are the sets with which a text begins and ends.
var usual = api.State{G0: 1, G1: 2}

// made is what an escape names: a side, and the set that it is made.
type made struct{ side, set int }

// told are all escapes of chapter 8's words, without their byte 1b, by the
// sides' and the sets' numbers in the document.
var told = map[string]made{
	"(B": {0, 1}, ",B": {0, 1}, "s": {0, 1}, ")B": {1, 1}, "-B": {1, 1},
	"(!E": {0, 2}, ",!E": {0, 2}, ")!E": {1, 2}, "-!E": {1, 2},
	"(S": {0, 3}, ",S": {0, 3}, ")S": {1, 3}, "-S": {1, 3},
	"(2": {0, 4}, ",2": {0, 4}, ")2": {1, 4}, "-2": {1, 4},
	"(3": {0, 5}, ",3": {0, 5}, ")3": {1, 5}, "-3": {1, 5},
	"(4": {0, 6}, ",4": {0, 6}, ")4": {1, 6}, "-4": {1, 6},
	"(N": {0, 7}, ",N": {0, 7}, ")N": {1, 7}, "-N": {1, 7},
	"(Q": {0, 8}, ",Q": {0, 8}, ")Q": {1, 8}, "-Q": {1, 8},
	"$1": {0, 9}, "$,1": {0, 9}, "$)1": {1, 9}, "$-1": {1, 9},
	"b": {0, 10}, "p": {0, 11}, "g": {0, 12},
}

// lone are the bytes whose characters are of no set, and have no marks.
var lone = map[byte]rune{0x20: 0x20, 0x88: 0x98, 0x89: 0x9c, 0x8d: 0x200d, 0x8e: 0x200c}

// of answers what the escape makes of s.
func (m made) of(s api.State) api.State {
	if m.side == 0 {
		return api.State{G0: m.set, G1: s.G1}
	}
	return api.State{G0: s.G0, G1: m.set}
}

// states are all that a text may have.
func states() []api.State {
	var list []api.State
	for n := range 12 * 9 {
		list = append(list, api.State{G0: n%12 + 1, G1: n/12 + 1})
	}
	return list
}

// The second way of reading: a text is cut into pieces first, and each piece
// looks back then at those that stand ahead of it.

const (
	isEscape = iota
	isLone
	isMark
	isLetter
	isFault
	isEnd
)

type piece struct {
	kind, at int
	r        rune
	e        api.Errno
}

// cut answers the pieces up to the first that is wrong, or to the end, and the
// sets there.
func cut(b []byte, s api.State) ([]piece, api.State) {
	var list []piece
	for at := 0; at < len(b); {
		p, n, next := first(b[at:], s)
		p.at = at
		list = append(list, p)
		if p.kind == isFault {
			return list, s
		}
		at, s = at+n, next
	}
	return append(list, piece{kind: isEnd, at: len(b)}), s
}

// first answers the piece that b begins with, its length, and the sets behind.
func first(b []byte, s api.State) (piece, int, api.State) {
	if b[0] == 0x1b {
		for n := 2; n <= 4 && n <= len(b); n++ {
			if m, ok := told[string(b[1:n])]; ok {
				return piece{kind: isEscape}, n, m.of(s)
			}
		}
		return piece{kind: isFault, e: api.ErrEscape}, 0, s
	}
	if r, ok := lone[b[0]]; ok {
		return piece{kind: isLone, r: r}, 1, s
	}
	r, n := number(b, s.G0, 0x21, 0x7e)
	if n == 0 {
		r, n = number(b, s.G1, 0xa1, 0xfe)
	}
	switch {
	case n == 0:
		return piece{kind: isFault, e: api.ErrByte}, 0, s
	case class.Of(r) > 0:
		return piece{kind: isMark, r: r}, n, s
	}
	return piece{kind: isLetter, r: r}, n, s
}

// number answers the set's character that b begins with, and how many bytes it
// has, none if one is not from low to high.
func number(b []byte, set int, low, high byte) (rune, int) {
	size := 1
	if set == 9 {
		size = 3
	}
	if len(b) < size {
		return 0, 0
	}
	n := 0
	for _, c := range b[:size] {
		if c < low || c > high {
			return 0, 0
		}
		n = n*0x100 + 0x21 + int(c-low)
	}
	r, ok := glyph.Rune(api.Code{Set: set, N: n})
	if !ok {
		return 0, 0
	}
	return r, size
}

// ahead answers the marks that stand ahead of the last piece, and the place of
// the first of them.
func ahead(list []piece) (marks []rune, at int) {
	for i := len(list) - 2; i >= 0; i-- {
		if list[i].kind == isMark {
			marks, at = append(marks, list[i].r), list[i].at
		} else if list[i].kind != isEscape {
			break
		}
	}
	slices.Reverse(marks)
	return marks, at
}

// asTold answers what Decode is to answer.
func asTold(b []byte, s api.State) ([]rune, api.State, api.Fault) {
	list, end := cut(b, s)
	var text []rune
	for i, p := range list {
		marks, at := ahead(list[:i+1])
		switch {
		case p.kind == isFault:
			return nil, api.State{}, api.Fault{E: p.e, At: p.at}
		case (p.kind == isLone || p.kind == isEnd) && len(marks) > 0:
			return nil, api.State{}, api.Fault{E: api.ErrMark, At: at}
		case p.kind == isLone:
			text = append(text, p.r)
		case p.kind == isLetter:
			text = append(append(text, p.r), marks...)
		}
	}
	return text, end, api.Fault{}
}

// decodeLike holds Decode's answer against what is wanted.
func decodeLike(t *testing.T, b []byte, s api.State, want []rune, end api.State, fault api.Fault) {
	t.Helper()
	r, x, f := read.Decode(b, s)
	if !slices.Equal(r, want) || x != end || f != fault {
		t.Fatalf("Decode(%q, %v): %x, %v, %v, not %x, %v, %v", b, s, r, x, f, want, end, fault)
	}
}

// textLike holds Text's answer against what is wanted.
func textLike(t *testing.T, b []byte, want []rune, fault api.Fault) {
	t.Helper()
	r, f := read.Text(b)
	if !slices.Equal(r, want) || f != fault {
		t.Fatalf("Text(%q): %x, %v, not %x, %v", b, r, f, want, fault)
	}
}

// bothAsTold holds both calls against the second way.
func bothAsTold(t *testing.T, b []byte, s api.State) {
	t.Helper()
	want, end, fault := asTold(b, s)
	decodeLike(t, b, s, want, end, fault)
	if s != usual {
		return
	}
	if fault == (api.Fault{}) && end != usual {
		want, fault = nil, api.Fault{E: api.ErrShut, At: len(b)}
	}
	textLike(t, b, want, fault)
}

// readLike holds a text without a fault, and the sets at its end, against what
// is wanted.
func readLike(t *testing.T, text string, s api.State, want string, end api.State) {
	t.Helper()
	decodeLike(t, []byte(text), s, []rune(want), end, api.Fault{})
}

// faultLike holds a text with a fault against what is wanted.
func faultLike(t *testing.T, text string, s api.State, e api.Errno, at int) {
	t.Helper()
	decodeLike(t, []byte(text), s, nil, api.State{}, api.Fault{E: e, At: at})
	if s == usual {
		textLike(t, []byte(text), nil, api.Fault{E: e, At: at})
	}
}

// Tests of P15.1: characters, and the sets at the end.

func TestTexts(t *testing.T) {
	for text, want := range map[string]string{
		"":                          "",
		"\xe2e":                     "e\u0301", // the chapter's example, and those of the whole
		"\x1b(NA\x1bs":              "\u0430",
		"H\x1bb2\x1bsO":             "H\u2082O",
		"\x1b$1!0!\x1bs":            "\u4e00",
		"plain text.":               "plain text.",
		"!~":                        "!~",
		"\xa1\xb2\xc3\xc7":          "\u0141\u00f8\u00a9\u00df",
		" a  b ":                    " a  b ",
		"\x88a\x89b\x8dc\x8ed":      "\u0098a\u009cb\u200dc\u200cd",
		"\x88\x89\x8d\x8e":          "\u0098\u009c\u200d\u200c",
		"\x1b)B\xa1\xc1\xfe\x1b)!E": "!A~",
		"\x1b(!E!2\x1b(B2":          "\u0141\u00f82",
		"\x1b(Sabc\x1b,B":           "\u03b1\u03b2\u03d0",
		"\x1bgabc\x1bs":             "\u03b1\u03b2\u03b3",
		"\x1bp123\x1bs":             "\u00b9\u00b2\u00b3",
		"\x1b(2`a\x1bs":             "\u05d0\u05d1",
		"\x1b(3G\x1b(4!\x1bs":       "\u0627\u06fd",
		"\x1b-Q\xc0@\x1b-!E":        "\u0491@",
		"\x1b$)1\xa1\xb0\xa1a\xe9\xa4\xa1\x1b)!E": "\u4e00a\u3041",
		"\x1b$,1!#!\x88!0! \x1bs":                 "\u3000\u0098\u4e00 ",
		"\x1b$1!0!\x1b)S\xe1i$!\x1bs\x1b)!E":      "\u4e00\u03b1\u3041",
	} {
		textLike(t, []byte(text), []rune(want), api.Fault{})
	}
}

// What is decoded is not put together or taken apart.
func TestCharactersStayAsTheyAre(t *testing.T) {
	readLike(t, "\xe2e\xac\xbc\xe8u\xe2o", usual, "e\u0301\u01a0\u01a1u\u0308o\u0301", usual)
	readLike(t, "G\xca", api.State{G0: 8, G1: 7}, "\u0457\u0439", api.State{G0: 8, G1: 7})
	readLike(t, "\x1b(3B\x1b$1i$,", usual, "\u0622\u304c", api.State{G0: 9, G1: 2})
}

func TestSetsAtTheEnd(t *testing.T) {
	for _, s := range states() {
		readLike(t, "", s, "", s)
		readLike(t, "  \x88", s, "  \u0098", s)
		for text, m := range told {
			readLike(t, "\x1b"+text, s, "", m.of(s))
			readLike(t, " \x1b"+text+" ", s, "  ", m.of(s))
			readLike(t, "\x1bp\x1b)Q\x1b"+text, s, "", m.of(api.State{G0: 11, G1: 8}))
		}
	}
	readLike(t, "A\x1b)S\xe1\x1bs", api.State{G0: 7, G1: 2}, "\u0430\u03b1", api.State{G0: 1, G1: 3})
	readLike(t, "\x1b(N\x1b(S\x1b(2`", usual, "\u05d0", api.State{G0: 4, G1: 2})
}

// Each code of each set, on each side that the set has.
func TestEveryCode(t *testing.T) {
	for _, r := range glyph.Known() {
		if class.Mark(r) {
			continue
		}
		for _, c := range glyph.Codes(r) {
			b := bytesOf(c)
			s := api.State{G0: c.Set, G1: 5}
			decodeLike(t, b, s, []rune{r}, s, api.Fault{})
			if c.Set > 9 {
				continue
			}
			for i := range b {
				b[i] += 0x80
			}
			s = api.State{G0: 12, G1: c.Set}
			decodeLike(t, b, s, []rune{r}, s, api.Fault{})
		}
	}
}

// bytesOf answers a code's bytes, as G0 has them.
func bytesOf(c api.Code) []byte {
	if c.Set == 9 {
		return []byte{byte(c.N >> 16), byte(c.N >> 8), byte(c.N)}
	}
	return []byte{byte(c.N)}
}

// Each byte, in each state: alone, behind a letter, behind a mark, ahead of
// others.
func TestEveryByte(t *testing.T) {
	for _, s := range states() {
		for n := range 0x100 {
			c := string([]byte{byte(n)})
			for _, text := range []string{c, "a" + c, c + "a", "\xe1" + c, c + "\xe1", "\xe1" + c + "\xe1", "\xe2\"" + c + "a\xc1", c + "!0!", c + "\xb0\xa1"} {
				bothAsTold(t, []byte(text), s)
			}
		}
	}
}

// All texts of up to four of these pieces.
func TestShortTexts(t *testing.T) {
	pieces := []string{
		"a", "!", "0", "\"", " ", "\x8d", "\xe2", "\xf2", "\xa1", "\xb0", "\xaf", "\x7f", "\x1b",
		"\x1bs", "\x1b(S", "\x1b)!E", "\x1b-2", "\x1b$1", "\x1b$)1", "\x1bb",
	}
	texts := []string{""}
	for range 4 {
		var longer []string
		for _, text := range texts {
			for _, p := range pieces {
				longer = append(longer, text+p)
				bothAsTold(t, []byte(text+p), usual)
			}
		}
		texts = longer
	}
}

// Longer texts, from any state, of pieces that are taken at random (and always
// the same).
func TestLongTexts(t *testing.T) {
	pick := rand.New(rand.NewSource(15))
	var escapes []string
	for text := range told {
		escapes = append(escapes, "\x1b"+text)
	}
	slices.Sort(escapes)
	letters := []string{"a", "b", "A", "E", "0", "1", "!0!", "!0\"", "i$!", " ", "\x89", "\xa1\xb0\xa1", "\xe9\xa5\xa1", "\xb0", "\xc1", "\xe5", "\xe2", "\xf2", "\xe8", "@", "\"", "k"}
	right := 0
	for range 60000 {
		s := states()[pick.Intn(108)]
		var b []byte
		for range pick.Intn(12) {
			if pick.Intn(4) == 0 {
				b = append(b, escapes[pick.Intn(len(escapes))]...)
			} else {
				b = append(b, letters[pick.Intn(len(letters))]...)
			}
		}
		bothAsTold(t, b, s)
		bothAsTold(t, b, usual)
		if _, _, f := read.Decode(b, s); f.E == api.OK {
			right++
		}
	}
	if right < 5000 {
		t.Errorf("%d texts without a fault are too few to tell", right)
	}
}

// Tests of P15.1: marks.

func TestMarksStandBehind(t *testing.T) {
	for text, want := range map[string]string{
		"\xf2\xe3o":                           "o\u0323\u0302", // in their order, whatever their classes
		"\xe3\xf2o":                           "o\u0302\u0323",
		"\xe2\xe2\xe2e":                       "e\u0301\u0301\u0301",
		"a\xe2b\xe3\xf2cd":                    "ab\u0301c\u0302\u0323d",
		" \xe2e ":                             " e\u0301 ",
		"\x88\xe2e\x89":                       "\u0098e\u0301\u009c",
		"\xebt\xecs":                          "t\ufe20s\ufe21",
		"\xe2\xa1":                            "\u0141\u0301",
		"\xe2\x1b(SA\x1bs":                    "\u0391\u0301",
		"\xe2\x1b)S\x1b(S\xa3\x1b)!Ea\x1bs":   "\u03b1\u0301\u0308",
		"\x1b(S\"#\xe2\x1bsa":                 "a\u0301\u0308\u0301",
		"\x1b(2@`A\x1bsM":                     "\u05d0\u05b7M\u05b8",
		"\x1b(3kG\x1bs":                       "\u0627\u064b",
		"\x1b$1\xe1!0!!#!\x1bs":               "\u4e00\u0300\u3000",
		"\x1b$1\xe2!#!\x1bs":                  "\u3000\u0301", // of a set: it is no blank
		"\x1bb\xe2\x32\x1bs":                  "\u2082\u0301",
		"\x1b(!Ebc!\x1bs":                     "\u0141\u0301\u0302",
		"\x1b(!E\xe2bc!\xc2\x1b(B":            "\u0141\u0301\u0301\u0302\u2117",
		"\xe2\x1b(N\x1b(S\x1bs\x1b,B\x1b)!Ea": "a\u0301",
	} {
		textLike(t, []byte(text), []rune(want), api.Fault{})
	}
}

// Each mark of each set, on each side that the set has.
func TestEveryMark(t *testing.T) {
	seen := 0
	for _, m := range glyph.Known() {
		if !class.Mark(m) {
			continue
		}
		for _, c := range glyph.Codes(m) {
			seen++
			low, high := string(bytesOf(c)), string([]byte{byte(c.N) | 0x80})
			s := api.State{G0: c.Set, G1: 7}
			readLike(t, low+"\xc1"+low+"\xc2", s, "\u0430"+string(m)+"\u0431"+string(m), s)
			faultLike(t, low, s, api.ErrMark, 0)
			faultLike(t, "\xc1"+low+" ", s, api.ErrMark, 1)
			s = api.State{G0: 1, G1: c.Set}
			readLike(t, high+"a"+high+"b", s, "a"+string(m)+"b"+string(m), s)
			faultLike(t, "ab"+high, s, api.ErrMark, 2)
			faultLike(t, high+"\x8e", s, api.ErrMark, 0)
		}
	}
	if seen != 60 {
		t.Errorf("%d codes of marks", seen)
	}
}

// How many marks there are has no bound here.
func TestManyMarks(t *testing.T) {
	for _, n := range []int{3, 4, 100, 20000} {
		marks := strings.Repeat("\xe2\xf2", n)
		want := strings.Repeat("\u0301\u0323", n)
		textLike(t, []byte("ab"+marks+"cd"), []rune("abc"+want+"d"), api.Fault{})
		textLike(t, []byte(marks+"c"+marks+"d"), []rune("c"+want+"d"+want), api.Fault{})
		faultLike(t, "ab"+marks, usual, api.ErrMark, 2)
		faultLike(t, marks+"c"+marks+" ", usual, api.ErrMark, 2*n+1)
	}
}

func TestMarksWithoutCharacters(t *testing.T) {
	for _, c := range []string{"", " ", "\x88", "\x89", "\x8d", "\x8e"} {
		for _, behind := range []string{"", "a", "\x01", "\x1b(Z", "\x1b(S"} {
			if c == "" && behind != "" {
				continue
			}
			faultLike(t, "\xe2"+c+behind, usual, api.ErrMark, 0)
			faultLike(t, "a\xe2"+c+behind, usual, api.ErrMark, 1)
			faultLike(t, "\xe2a\xf2\xe3\xf2"+c+behind, usual, api.ErrMark, 2)
			faultLike(t, " \x1b(S\"\xe2\x1bs"+c+behind, usual, api.ErrMark, 4)
			faultLike(t, "\x1b)S\xa2\x1b)!E\xe2\x1b$1"+c, usual, api.ErrMark, 3)
		}
	}
}

// Tests of P15.1: faults.

// No state has these bytes.
func TestBytesThatStandForNothing(t *testing.T) {
	for n := range 0x100 {
		c := byte(n)
		_, isLone := lone[c]
		if c == 0x1b || isLone || c >= 0x21 && c <= 0x7e || c >= 0xa1 && c <= 0xfe {
			continue
		}
		for _, s := range states() {
			faultLike(t, string([]byte{c}), s, api.ErrByte, 0)
			faultLike(t, string([]byte{' ', 0x88, c, '0', '!'}), s, api.ErrByte, 2)
			faultLike(t, string([]byte{c, 0xb0, 0xa1}), s, api.ErrByte, 0)
		}
	}
	for _, text := range []string{"\xaf", "\xbb", "\xbe", "\xc9", "\xd0", "\xfc", "\xfd"} {
		faultLike(t, "ab"+text+"c", usual, api.ErrByte, 2)
	}
	for text, s := range map[string]api.State{
		"@": {G0: 3, G1: 2}, "t": {G0: 8, G1: 3}, "a": {G0: 10, G1: 1}, "d": {G0: 12, G1: 2}, "=": {G0: 11, G1: 1},
		"/": {G0: 2, G1: 1}, "\xc0": {G0: 1, G1: 3}, "\xdf": {G0: 1, G1: 4}, "\xfe": {G0: 1, G1: 6}, "\xaf": {G0: 1, G1: 2},
	} {
		faultLike(t, text+"1", s, api.ErrByte, 0)
	}
}

// What is not three bytes of one side is no number of East's, and stands where
// its first byte does.
func TestNumbersOfThreeBytes(t *testing.T) {
	low, high := api.State{G0: 9, G1: 2}, api.State{G0: 1, G1: 9}
	for _, text := range []string{
		"!", "!0", "!0\xa1", "!\xb0\xa1", "!\xb0!", "!0 ", "! 0!", "!0\x1bs", "!\x1bs0!", "!0\x1b$1!", "!\x88!", "!0\x7f", "!0\xa0",
		"!\x000", "!0\x01", "!!!", "!#\"", "~~~", "!0\xe2!", "0!0!", "a", "!1 !", "!2!", "!0\n",
	} {
		faultLike(t, text, low, api.ErrByte, 0)
		faultLike(t, "\x1b$1"+text, usual, api.ErrByte, 3)
		faultLike(t, "!0! "+text, low, api.ErrByte, 4)
		faultLike(t, "\xe2"+text, low, api.ErrByte, 1)
	}
	for _, text := range []string{
		"\xa1", "\xa1\xb0", "\xa1\xb0!", "\xa10!", "\xa10\xa1", "\xa1\xb0 ", "\xa1 \xb0\xa1", "\xa1\xb0\x1bs", "\xa1\x1bs\xb0\xa1", "\xa1\xb0\x88",
		"\xa1\xb0\xff", "\xa1\xb0\x80", "\xa1\xa1\xa1", "\xfe\xfe\xfe", "\xb0\xa1\xb0\xa1", "\xa1\xb2\xa1",
	} {
		faultLike(t, text, high, api.ErrByte, 0)
		faultLike(t, "a\x1b$-1"+text, usual, api.ErrByte, 5)
		faultLike(t, "\xa1\xb0\xa1"+text, high, api.ErrByte, 3)
	}
	readLike(t, "!0!\xa1\xb0\xa1!0\"", api.State{G0: 9, G1: 9}, "\u4e00\u4e00\u4e01", api.State{G0: 9, G1: 9})
	faultLike(t, "!0!\xa1\xb0!0\"\xa1", api.State{G0: 9, G1: 9}, api.ErrByte, 3)
}

// Each code of East's, cut off, with a byte of the other side in any place, and
// with an escape in it.
func TestEveryCodeOfThreeBytesSpoilt(t *testing.T) {
	for _, r := range glyph.Known() {
		for _, c := range glyph.Codes(r) {
			if c.Set != 9 {
				continue
			}
			for _, side := range []byte{0, 0x80} {
				s := api.State{G0: 9, G1: 9}
				b := bytesOf(c)
				for i := range b {
					b[i] |= side
				}
				for i := range b {
					other := slices.Clone(b)
					other[i] ^= 0x80
					bothAsTold(t, other, s)
					decodeLike(t, other[:1], s, nil, api.State{}, api.Fault{E: api.ErrByte})
					if i > 0 {
						decodeLike(t, other, s, nil, api.State{}, api.Fault{E: api.ErrByte})
						decodeLike(t, b[:i], s, nil, api.State{}, api.Fault{E: api.ErrByte}) // with the rest in spare room
						decodeLike(t, slices.Insert(slices.Clone(b), i, []byte("\x1b$1")...), s, nil, api.State{}, api.Fault{E: api.ErrByte})
					}
				}
			}
		}
	}
}

func TestEscapesThatAreNone(t *testing.T) {
	for _, text := range []string{
		"\x1b", "\x1b\x1bs", "\x1b ", "\x1bS", "\x1b(", "\x1b(!", "\x1b(E", "\x1b)1", "\x1b(b", "\x1b)s", "\x1b$", "\x1b$B", "\x1b$)",
		"\x1b$(1", "\x1b(Z", "\x1b*B", "\x1b\xa8B",
	} {
		for _, s := range states() {
			faultLike(t, text, s, api.ErrEscape, 0)
			faultLike(t, " \x1b-S\x88"+text, s, api.ErrEscape, 5)
			faultLike(t, text+" \x01", s, api.ErrEscape, 0)
		}
	}
	whole := []byte("a\x1b(!E")
	for n := 2; n < 5; n++ { // with the rest in spare room
		decodeLike(t, whole[:n], usual, nil, api.State{}, api.Fault{E: api.ErrEscape, At: 1})
	}
}

// Of several faults that is answered which is met first, byte by byte: marks
// are told where what they can't stand on comes.
func TestWhichFault(t *testing.T) {
	for _, c := range []struct {
		text string
		e    api.Errno
		at   int
	}{
		{"\xe2\x01 ", api.ErrByte, 1},
		{"\xe2 \x01", api.ErrMark, 0},
		{"\xe2\x01", api.ErrByte, 1},
		{"\xe2\x1b(Z", api.ErrEscape, 1},
		{"\xe2\xf2\xaf", api.ErrByte, 2},
		{"\xe2\x1b$1!0", api.ErrByte, 4},
		{"\x01\x1b(Z", api.ErrByte, 0},
		{"\x1b(Z\x01", api.ErrEscape, 0},
		{"a\x01\xe2 ", api.ErrByte, 1},
		{"\xe2\x88\xe3\x89", api.ErrMark, 0},
		{"\xe2a\xe3\x89\x01", api.ErrMark, 2},
		{"\x1b(S\x01", api.ErrByte, 3},
		{"\x1b(S\xe2", api.ErrMark, 3},
		{"\x1b(S\x1b(Z", api.ErrEscape, 3},
		{"\xe2\x1b(S", api.ErrMark, 0},
	} {
		faultLike(t, c.text, usual, c.e, c.at)
	}
}

// mays are numbers around the sets, at their type's ends, and with a set's
// lower bits.
func mays() []int {
	list := []int{math.MinInt, math.MinInt + 1, math.MinInt32, math.MaxInt32, 1<<32 + 1, 1<<32 + 2, 0x101, 'B', 's', math.MaxInt}
	for n := -13; n <= 20; n++ {
		list = append(list, n)
	}
	return list
}

// That the sets may not be there is told ahead of all that stands in the text,
// be it right or wrong.
func TestSetsThatMayNotBe(t *testing.T) {
	for _, first := range mays() {
		for _, second := range mays() {
			s := api.State{G0: first, G1: second}
			may := first >= 1 && first <= 12 && second >= 1 && second <= 9
			for _, text := range []string{"", " ", "a", "\xe2", "\x01", "\x1b(Z", "\x1bs\x1b)!E", "\x1bs\x1b)!Eabc"} {
				if may {
					bothAsTold(t, []byte(text), s)
				} else {
					faultLike(t, text, s, api.ErrArg, 0)
				}
			}
		}
	}
	decodeLike(t, nil, api.State{}, nil, api.State{}, api.Fault{E: api.ErrArg})
	decodeLike(t, nil, api.State{G0: 1, G1: 10}, nil, api.State{}, api.Fault{E: api.ErrArg})
	decodeLike(t, nil, usual, nil, usual, api.Fault{})
}

// Text wants the usual sets at the end: both of them.
func TestSetsThatAreNotTheUsualOnes(t *testing.T) {
	for text, m := range told {
		for _, ahead := range []string{"", "a", "\xe2e \x1b)S\xe1\x1b)!E"} {
			b := []byte(ahead + "\x1b" + text)
			if m.of(usual) != usual {
				textLike(t, b, nil, api.Fault{E: api.ErrShut, At: len(b)})
				textLike(t, append(b, "  "...), nil, api.Fault{E: api.ErrShut, At: len(b) + 2})
			} else if ahead == "" {
				textLike(t, b, nil, api.Fault{})
			}
			textLike(t, append(b, "\x1bs\x1b)!E"...), mustDecode(t, ahead), api.Fault{})
		}
	}
	textLike(t, []byte("\x1b(S\x1b)N\x1bs"), nil, api.Fault{E: api.ErrShut, At: 8})
	textLike(t, []byte("\x1b(S\x1b)N\x1b)!E"), nil, api.Fault{E: api.ErrShut, At: 10})
	textLike(t, []byte("\x1b(!E\x1b)B"), nil, api.Fault{E: api.ErrShut, At: 7}) // the usual ones, on the other sides
	textLike(t, []byte("\x1b,B\x1b-!E"), nil, api.Fault{})
	textLike(t, nil, nil, api.Fault{})
}

// mustDecode answers the characters of a text without a fault.
func mustDecode(t *testing.T, text string) []rune {
	t.Helper()
	r, _, f := asTold([]byte(text), usual)
	if f.E != api.OK {
		t.Fatalf("%q: %v", text, f)
	}
	return r
}

// Tests of the rules that hold everywhere.

// some are texts with and without faults.
var some = []string{
	"", "a", "plain text.", "\xf2\xe3o\xe2e", "\x1b(NABC\x1bs", "\x1b$1!0!!0\"\x1bs", "\x1b)S\xa2\xe1\x1b)!E", " \x88\x89 ",
	"ab\x01", "\x1b(S", "\xe2", "\xe2 ", "\x1b$1!0", "\x1b(!",
}

func TestTextsAreNotChanged(t *testing.T) {
	for _, text := range some {
		whole := []byte(text + "\xe2a\x1b(S spare room")
		kept := slices.Clone(whole)
		for n := range whole {
			read.Text(whole[:n])
			for _, s := range states() {
				read.Decode(whole[:n], s)
			}
		}
		if !bytes.Equal(whole, kept) {
			t.Errorf("%q was changed to %q", kept, whole)
		}
	}
}

// spoil fills a list, its spare room included.
func spoil[T any](list []T, with T) {
	list = list[:cap(list)]
	for i := range list {
		list[i] = with
	}
}

// Who spoils one answer, or what was handed in, spoils no other answer, neither
// one that was given already nor one that is still to come.
func TestNewMemory(t *testing.T) {
	for _, text := range some {
		want, end, fault := asTold([]byte(text), usual)
		b := []byte(text)
		kept, _, _ := read.Decode(b, usual)
		other, _ := read.Text(b)
		if fault.E == api.OK && end == usual && !slices.Equal(other, want) {
			t.Errorf("%q: %x", text, other)
		}
		spoil(other, 77)
		spoil(b, '#')
		if !slices.Equal(kept, want) {
			t.Errorf("%q: %x is shared", text, kept)
		}
		bothAsTold(t, []byte(text), usual)
	}
}

// Nothing is kept from call to call: not the sets, and not marks.
func TestNothingIsKept(t *testing.T) {
	for range 3 {
		for _, text := range some {
			read.Decode([]byte(text), api.State{G0: 3, G1: 4})
			bothAsTold(t, []byte(text), usual)
			textLike(t, []byte("a\xe2e"), []rune("ae\u0301"), api.Fault{})
		}
	}
}
