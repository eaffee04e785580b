package utf_test

import (
	"bytes"
	"math"
	"slices"
	"testing"
	"unicode/utf8"

	"amanuensis/api"
	"amanuensis/utf"
)

// edges are the numbers at which a length, or being a scalar, begins or ends.
var edges = []struct {
	r     rune
	n     int
	bytes string
}{
	{0, 1, "\x00"},
	{'A', 1, "A"},
	{0x7f, 1, "\x7f"},
	{0x80, 2, "\xc2\x80"},
	{0xe9, 2, "\xc3\xa9"},
	{0x7ff, 2, "\xdf\xbf"},
	{0x800, 3, "\xe0\xa0\x80"},
	{0x4e00, 3, "\xe4\xb8\x80"},
	{0xd7ff, 3, "\xed\x9f\xbf"},
	{0xe000, 3, "\xee\x80\x80"},
	{0xfffe, 3, "\xef\xbf\xbe"},
	{0xffff, 3, "\xef\xbf\xbf"},
	{0x10000, 4, "\xf0\x90\x80\x80"},
	{0x1f600, 4, "\xf0\x9f\x98\x80"},
	{0xfffff, 4, "\xf3\xbf\xbf\xbf"},
	{0x100000, 4, "\xf4\x80\x80\x80"},
	{0x10ffff, 4, "\xf4\x8f\xbf\xbf"},
}

var noScalars = []rune{
	math.MinInt32, -0x110000, -0x80, -1,
	0xd800, 0xd801, 0xdbff, 0xdc00, 0xdffe, 0xdfff,
	0x110000, 0x1fffff, 0x200000, math.MaxInt32,
}

// wrong are bytes that are no UTF-8, and where they first go wrong.
var wrong = []struct {
	name  string
	bytes string
	at    int
}{
	{"a later byte first", "\x80", 0},
	{"the last later byte first", "a\xbf", 1},
	{"a later byte too many", "\xc3\xa9\xa9", 2},
	{"two bytes for 0", "\xc0\x80", 0},
	{"two bytes for 7f", "a\xc1\xbf", 1},
	{"three bytes for 0", "\xe0\x80\x80", 0},
	{"three bytes for 2f", "\xe0\x80\xaf", 0},
	{"three bytes for 7ff", "\xe0\x9f\xbf", 0},
	{"four bytes for 0", "\xf0\x80\x80\x80", 0},
	{"four bytes for ffff", "\xf0\x8f\xbf\xbf", 0},
	{"the first surrogate", "\xed\xa0\x80", 0},
	{"the last surrogate", "ab\xed\xbf\xbf", 2},
	{"a pair of surrogates", "\xed\xa0\xbd\xed\xb8\x80", 0},
	{"one above the last scalar", "\xf4\x90\x80\x80", 0},
	{"the greatest of four bytes", "\xf7\xbf\xbf\xbf", 0},
	{"five bytes", "\xf8\x88\x80\x80\x80", 0},
	{"six bytes", "\xfc\x84\x80\x80\x80\x80", 0},
	{"fe", "\xfe", 0},
	{"ff", "\xff\xff", 0},
	{"two bytes cut off", "ab\xc3", 2},
	{"three bytes cut off behind one", "ab\xe4", 2},
	{"three bytes cut off behind two", "ab\xe4\xb8", 2},
	{"four bytes cut off behind one", "é\xf0", 2},
	{"four bytes cut off behind two", "é\xf0\x9f", 2},
	{"four bytes cut off behind three", "é\xf0\x9f\x98", 2},
	{"two bytes broken off", "\xc3a", 0},
	{"three bytes broken off at the second", "一\xe4a\x80", 3},
	{"three bytes broken off at the third", "一\xe4\xb8a", 3},
	{"four bytes broken off at the second", "\xf0a\x98\x80", 0},
	{"four bytes broken off at the third", "\xf0\x9fa\x80", 0},
	{"four bytes broken off at the fourth", "\xf0\x9f\x98a", 0},
	{"another first byte in the place of a later one", "\xc3\xc3\xa9", 0},
	{"the first of two wrong places", "a\xffb\xff", 1},
	{"behind all lengths", "aé一\U0001f600\xff", 10},
}

// Tests of P1.1.

func TestScalarAndLenAtTheEdges(t *testing.T) {
	for _, e := range edges {
		if !utf.Scalar(e.r) || utf.Len(e.r) != e.n {
			t.Errorf("%x: %v, %d bytes", e.r, utf.Scalar(e.r), utf.Len(e.r))
		}
	}
	for _, r := range noScalars {
		if utf.Scalar(r) || utf.Len(r) != 0 {
			t.Errorf("%x: %v, %d bytes", r, utf.Scalar(r), utf.Len(r))
		}
	}
}

func TestEncodeAtTheEdges(t *testing.T) {
	for _, e := range edges {
		b, f := utf.Encode([]rune{e.r})
		if f != (api.Fault{}) || string(b) != e.bytes {
			t.Errorf("%x: % x, %+v", e.r, b, f)
		}
	}
}

func TestEncodeJoinsAll(t *testing.T) {
	var list []rune
	var want []byte
	for _, e := range edges {
		list = append(list, e.r)
		want = append(want, e.bytes...)
	}
	b, f := utf.Encode(list)
	if f != (api.Fault{}) || !bytes.Equal(b, want) {
		t.Errorf("% x, %+v", b, f)
	}
}

func TestEncodeTellsTheFirstNoScalar(t *testing.T) {
	for _, r := range noScalars {
		for at, list := range [][]rune{{r}, {'a', r, 'b', -1}, {0x10ffff, 0xe9, r, r}} {
			b, f := utf.Encode(list)
			if len(b) != 0 || f != (api.Fault{E: api.ErrUTF, At: at}) {
				t.Errorf("%x: % x, %+v", list, b, f)
			}
		}
	}
}

func TestEveryNumber(t *testing.T) {
	for r := rune(-0x100); r < 0x110100; r++ {
		scalar := utf8.ValidRune(r)
		if utf.Scalar(r) != scalar {
			t.Fatalf("%x: Scalar %v", r, !scalar)
		}
		b, f := utf.Encode([]rune{r})
		if !scalar {
			if utf.Len(r) != 0 || len(b) != 0 || f != (api.Fault{E: api.ErrUTF}) {
				t.Fatalf("%x: %d bytes, % x, %+v", r, utf.Len(r), b, f)
			}
			continue
		}
		if utf.Len(r) != utf8.RuneLen(r) || string(b) != string(r) || f != (api.Fault{}) {
			t.Fatalf("%x: %d bytes, % x, %+v", r, utf.Len(r), b, f)
		}
		back, f := utf.Decode(b)
		if !slices.Equal(back, []rune{r}) || f != (api.Fault{}) {
			t.Fatalf("%x: back %x, %+v", r, back, f)
		}
	}
}

// Tests of P1.2.

func TestDecodeAtTheEdges(t *testing.T) {
	for _, e := range edges {
		r, f := utf.Decode([]byte(e.bytes))
		if f != (api.Fault{}) || !slices.Equal(r, []rune{e.r}) {
			t.Errorf("% x: %x, %+v", e.bytes, r, f)
		}
	}
}

func TestDecodeTakesAllInTheirOrder(t *testing.T) {
	r, f := utf.Decode([]byte("aé一\U0001f600\x00z"))
	want := []rune{'a', 0xe9, 0x4e00, 0x1f600, 0, 'z'}
	if f != (api.Fault{}) || !slices.Equal(r, want) {
		t.Errorf("%x, %+v", r, f)
	}
}

func TestDecodeTellsWhereItGoesWrong(t *testing.T) {
	for _, w := range wrong {
		r, f := utf.Decode([]byte(w.bytes))
		if len(r) != 0 || f != (api.Fault{E: api.ErrUTF, At: w.at}) {
			t.Errorf("%s: %x, %+v", w.name, r, f)
		}
	}
}

// likeLibrary holds Decode against the library's own strict decoder.
func likeLibrary(t *testing.T, b []byte) {
	var want []rune
	var fault api.Fault
	for at := 0; at < len(b); {
		r, n := utf8.DecodeRune(b[at:])
		if r == utf8.RuneError && n == 1 {
			want, fault = nil, api.Fault{E: api.ErrUTF, At: at}
			break
		}
		want = append(want, r)
		at += n
	}
	r, f := utf.Decode(b)
	if f != fault || !slices.Equal(r, want) {
		t.Fatalf("% x: %x, %+v, not %x, %+v", b, r, f, want, fault)
	}
	if fault != (api.Fault{}) {
		return
	}
	if back, f := utf.Encode(r); !bytes.Equal(back, b) || f != (api.Fault{}) {
		t.Fatalf("% x: back % x, %+v", b, back, f)
	}
}

func TestDecodeOfEveryTwoBytesAndWhatFollows(t *testing.T) {
	behind := []byte{0, 0x7f, 0x80, 0x8f, 0x90, 0xbf, 0xc0, 0xc3, 0xff}
	for i := range 1 << 16 {
		b := []byte{byte(i >> 8), byte(i), 0, 0}
		likeLibrary(t, b[1:2])
		likeLibrary(t, b[:2])
		for _, c := range behind {
			b[2] = c
			likeLibrary(t, b[:3])
			for _, d := range behind {
				b[3] = d
				likeLibrary(t, b)
			}
		}
	}
}

func FuzzDecode(f *testing.F) {
	for _, e := range edges {
		f.Add([]byte(e.bytes))
	}
	for _, w := range wrong {
		f.Add([]byte(w.bytes))
	}
	f.Fuzz(func(t *testing.T, b []byte) { likeLibrary(t, b) })
}

// Tests of the rules that hold everywhere.

func TestNothingIsNothing(t *testing.T) {
	for _, b := range [][]byte{nil, {}} {
		if r, f := utf.Decode(b); len(r) != 0 || f != (api.Fault{}) {
			t.Errorf("%x, %+v", r, f)
		}
	}
	for _, r := range [][]rune{nil, {}} {
		if b, f := utf.Encode(r); len(b) != 0 || f != (api.Fault{}) {
			t.Errorf("% x, %+v", b, f)
		}
	}
}

func TestDecodeLeavesAndSharesNothing(t *testing.T) {
	room := []byte("aé一spare")
	was := bytes.Clone(room)
	one, _ := utf.Decode(room[:6])
	two, _ := utf.Decode(room[:6])
	utf.Decode(room[:5])
	if !bytes.Equal(room, was) {
		t.Errorf("changed to % x", room)
	}
	one[0] = 'z'
	clear(room)
	if !slices.Equal(two, []rune{'a', 0xe9, 0x4e00}) {
		t.Errorf("shared: %x", two)
	}
}

func TestEncodeLeavesAndSharesNothing(t *testing.T) {
	room := []rune{'a', 0xe9, 0x4e00, -1, 's'}
	was := slices.Clone(room)
	one, _ := utf.Encode(room[:3])
	two, _ := utf.Encode(room[:3])
	utf.Encode(room[:4])
	if !slices.Equal(room, was) {
		t.Errorf("changed to %x", room)
	}
	one[0] = 'z'
	clear(room)
	if string(two) != "aé一" {
		t.Errorf("shared: % x", two)
	}
}
