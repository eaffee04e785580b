package ncr_test

import (
	"fmt"
	"math"
	"regexp"
	"slices"
	"strconv"
	"testing"
	"unicode/utf8"

	"amanuensis/ncr"
)

// references are at the edges of how many digits there are, and of scalars.
var references = []struct {
	r    rune
	text string
}{
	{0, "&#x0000;"},
	{1, "&#x0001;"},
	{'&', "&#x0026;"},
	{'A', "&#x0041;"},
	{0xe9, "&#x00E9;"},
	{0xfff, "&#x0FFF;"},
	{0x1000, "&#x1000;"},
	{0x4e00, "&#x4E00;"},
	{0xabcd, "&#xABCD;"},
	{0xd7ff, "&#xD7FF;"},
	{0xe000, "&#xE000;"},
	{0xffff, "&#xFFFF;"},
	{0x10000, "&#x10000;"},
	{0x1f600, "&#x1F600;"},
	{0xfffff, "&#xFFFFF;"},
	{0x100000, "&#x100000;"},
	{0x10ffff, "&#x10FFFF;"},
}

var noScalars = []rune{
	math.MinInt32, -0x110000, -0x41, -1,
	0xd800, 0xdbff, 0xdc00, 0xdfff,
	0x110000, 0xffffff, 0x1000000, math.MaxInt32,
}

// noReferences hold no reference anywhere.
var noReferences = []string{
	"", "&", "&#", "&#x", "&#x;", "a", "é",
	// Its head.
	"#x00E9;", "x00E9;", "00E9;", "&x00E9;", "&#00E9;", "&#X00E9;", "&&x00E9;",
	"& #x00E9;", "&# x00E9;", "&#x 00E9;", "&#233;", "&#0233;", "&eacute;", "％#x00E9;",
	// How many digits.
	"&#xE;", "&#xE9;", "&#x0E9;", "&#x0000041;", "&#x10FFFF0;", "&#x1000000;", "&#xFFFFFFFFFFFFFFFFFFFF;",
	// The first of more than four.
	"&#x000E9;", "&#x0000E9;", "&#x04E00;", "&#x01F600;", "&#x00000;", "&#x000000;",
	// Which digits.
	"&#x00e9;", "&#x4e00;", "&#x4E0a;", "&#x1f600;", "&#x00G9;", "&#x00@9;", "&#x00/9;", "&#x00:9;",
	"&#x+0E9;", "&#x-0E9;", "&#x0_E9;", "&#x00E9_;", "&#x0x41;", "&#x00.9;", "&#x00 9;", "&#x 0E9;",
	"&#x００Ｅ９;", "&#x٠٠٤١;", "&#x\x00\x00\x004;",
	// What it means.
	"&#xD800;", "&#xDBFF;", "&#xDC00;", "&#xDFFF;", "&#x110000;", "&#x200000;", "&#xFFFFFF;",
	// Its end.
	"&#x00E9", "&#x00E9:", "&#x00E9 ;", "&#x00E9&", "&#x00E9；", "&#x1F600", "&#x10FFFF", "&#x10FFFF ",
}

// Tests of P2.1: Print.

func TestPrintAtTheEdges(t *testing.T) {
	for _, e := range references {
		if b, ok := ncr.Print(e.r); !ok || string(b) != e.text {
			t.Errorf("%x: %s, %v", e.r, b, ok)
		}
	}
}

func TestPrintOfNoScalar(t *testing.T) {
	for _, r := range noScalars {
		if b, ok := ncr.Print(r); ok || len(b) != 0 {
			t.Errorf("%x: %s, %v", r, b, ok)
		}
	}
}

func TestEveryNumber(t *testing.T) {
	for r := rune(-0x100); r < 0x110100; r++ {
		text := fmt.Sprintf("&#x%04X;", r)
		b, ok := ncr.Print(r)
		c, n := ncr.Scan([]rune(text))
		if !utf8.ValidRune(r) {
			if ok || len(b) != 0 || c != 0 || n != 0 {
				t.Fatalf("%x: %s, %v; %x, %d", r, b, ok, c, n)
			}
			continue
		}
		if !ok || string(b) != text || c != r || n != len(text) {
			t.Fatalf("%x: %s, %v; %x, %d", r, b, ok, c, n)
		}
	}
}

// Tests of P2.1: Scan.

func TestScanAtTheEdges(t *testing.T) {
	for _, e := range references {
		for _, behind := range []string{"", "x", ";", "0", e.text} {
			r, n := ncr.Scan([]rune(e.text + behind))
			if r != e.r || n != len(e.text) {
				t.Errorf("%s: %x, %d", e.text+behind, r, n)
			}
		}
	}
}

func TestScanOfNoReference(t *testing.T) {
	for _, s := range noReferences {
		for _, behind := range []string{"", " ", "&"} {
			if r, n := ncr.Scan([]rune(s + behind)); r != 0 || n != 0 {
				t.Errorf("%s: %x, %d", s+behind, r, n)
			}
		}
	}
}

func TestScanLooksAtTheBeginningAlone(t *testing.T) {
	for _, s := range []string{"x&#x00E9;", " &#x00E9;", "&&#x00E9;", "&#&#x00E9;", "&#x&#x00E9;", "&#x00E9&#x00E9;"} {
		if r, n := ncr.Scan([]rune(s)); r != 0 || n != 0 {
			t.Errorf("%s: %x, %d", s, r, n)
		}
	}
}

func TestScanOfEveryPart(t *testing.T) {
	for _, e := range references {
		whole := []rune(e.text)
		for end := range whole {
			if r, n := ncr.Scan(whole[:end]); r != 0 || n != 0 {
				t.Errorf("%s: %x, %d", e.text[:end], r, n)
			}
		}
	}
}

func TestScanTakesEveryRightDigitAndNoOther(t *testing.T) {
	const right = "0123456789ABCDEF"
	for at := 3; at < 7; at++ {
		for c := rune(-0x80); c < 0x300; c++ {
			text := []rune("&#x1111;")
			text[at] = c
			wanted := c >= 0 && c < 0x80 && slices.Contains([]byte(right), byte(c))
			if _, n := ncr.Scan(text); (n == len(text)) != wanted || !wanted && n != 0 {
				t.Errorf("%x at %d: %d", c, at, n)
			}
		}
	}
}

// Characters whose lower bits are those of a right one are other ones.
func TestScanOfNumbersThatAreNoCharacters(t *testing.T) {
	right := []rune("&#x00E9;")
	for at, c := range right {
		for _, other := range []rune{-1, -c, c + 0x100, c + 0x10000, c + 0x1000000, c | math.MinInt32, math.MaxInt32} {
			text := slices.Clone(right)
			text[at] = other
			if r, n := ncr.Scan(text); r != 0 || n != 0 || ncr.Has(text) || !slices.Equal(ncr.Expand(text), text) {
				t.Errorf("%x at %d: %x, %d", other, at, r, n)
			}
		}
	}
}

// Tests of P2.1: Has.

func TestHasFindsOneAnywhere(t *testing.T) {
	for _, e := range references {
		for _, ahead := range []string{"", "a", "&", "&#", "&#x", "&#x00", "&#xD800;", "一é&amp;"} {
			for _, behind := range []string{"", "z", "&#x", ";"} {
				if text := ahead + e.text + behind; !ncr.Has([]rune(text)) {
					t.Errorf("%s: none", text)
				}
			}
		}
	}
	for _, r := range noScalars {
		if !ncr.Has(append([]rune{r}, []rune("&#x00E9;")...)) {
			t.Errorf("behind %x: none", r)
		}
	}
}

func TestHasFindsNone(t *testing.T) {
	for _, s := range noReferences {
		if ncr.Has([]rune(s)) || ncr.Has([]rune("a"+s+" b")) {
			t.Errorf("%s: one", s)
		}
	}
	if ncr.Has(noScalars) {
		t.Errorf("%x: one", noScalars)
	}
}

// Tests of P2.1: Expand.

func TestExpandPutsScalarsInTheirPlaces(t *testing.T) {
	for _, c := range []struct{ text, want string }{
		{"a", "a"},
		{"&#x00E9;", "é"},
		{"caf&#x00E9;!", "café!"},
		{"&#x4E00;&#x4E00;", "一一"},
		{"&#x1F600;x&#x10FFFF;", "\U0001f600x\U0010ffff"},
		{"a&#x0000;b", "a\x00b"},
		{"&#x0065;&#x0301;", "e\u0301"},
		{"&&#x0041;", "&A"},
		{"&#&#x0041;", "&#A"},
		{"&#x&#x0041;", "&#xA"},
		{"&#x004&#x0041;", "&#x004A"},
		{"&#x0041&#x0042;", "&#x0041B"},
		{"&#xD800;&#x0041;&#x00e9;", "&#xD800;A&#x00e9;"},
		{"&#x0041;;", "A;"},
	} {
		if s := string(ncr.Expand([]rune(c.text))); s != c.want {
			t.Errorf("%s: %s", c.text, s)
		}
	}
}

func TestExpandDoesNotLookAgain(t *testing.T) {
	for _, c := range []struct{ text, want string }{
		{"a&#x0041;&#x0026;#x0042;", "aA&#x0042;"},
		{"&&#x0023;x0041;", "&#x0041;"},
		{"&#&#x0078;0041;", "&#x0041;"},
		{"&#x&#x0030;041;", "&#x0041;"},
		{"&#x004&#x0031;;", "&#x0041;"},
		{"&#x0041&#x003B;", "&#x0041;"},
		{"&#x0026;#x0026;#x0041;", "&#x0026;#x0041;"},
	} {
		if s := string(ncr.Expand([]rune(c.text))); s != c.want {
			t.Errorf("%s: %s", c.text, s)
		}
	}
}

func TestExpandLeavesWhatIsNoReference(t *testing.T) {
	for _, s := range noReferences {
		if got := string(ncr.Expand([]rune(s))); got != s {
			t.Errorf("%s: %s", s, got)
		}
	}
	if r := ncr.Expand(noScalars); !slices.Equal(r, noScalars) {
		t.Errorf("%x", r)
	}
	text := append([]rune{-1, 0xd800}, []rune("&#x00E9;")...)
	text = append(text, 0x110000)
	if r := ncr.Expand(text); !slices.Equal(r, []rune{-1, 0xd800, 0xe9, 0x110000}) {
		t.Errorf("%x", r)
	}
}

// Tests of P2.1: all calls, held against the chapter's words as a pattern.

var pattern = regexp.MustCompile(`^&#x([0-9A-F]{4}|[1-9A-F][0-9A-F]{4,5});`)

func scanByPattern(r []rune) (rune, int) {
	found := pattern.FindStringSubmatch(string(r))
	if found == nil {
		return 0, 0
	}
	v, err := strconv.ParseUint(found[1], 16, 64)
	if err != nil || v > utf8.MaxRune || !utf8.ValidRune(rune(v)) {
		return 0, 0
	}
	return rune(v), len(found[0])
}

func likePattern(t *testing.T, r []rune) {
	var want []rune
	has := false
	for at := range r {
		c, n := scanByPattern(r[at:])
		if gotC, gotN := ncr.Scan(r[at:]); gotC != c || gotN != n {
			t.Fatalf("%q at %d: %x, %d, not %x, %d", string(r), at, gotC, gotN, c, n)
		}
		has = has || n > 0
	}
	for at := 0; at < len(r); {
		c, n := scanByPattern(r[at:])
		if n == 0 {
			c, n = r[at], 1
		}
		want = append(want, c)
		at += n
	}
	if ncr.Has(r) != has {
		t.Fatalf("%q: Has %v", string(r), !has)
	}
	if got := ncr.Expand(r); !slices.Equal(got, want) {
		t.Fatalf("%q: %q, not %q", string(r), string(got), string(want))
	}
}

// The last two to four places behind a reference's beginning are filled in
// every way with some characters: ends, heads, right digits and wrong ones.
func TestEveryEndBehindABeginning(t *testing.T) {
	letters := []rune("&#x;04DFag")
	text := []rune("&#x000000")
	var fill func(at int)
	fill = func(at int) {
		if at == len(text) {
			likePattern(t, text)
			return
		}
		for _, c := range letters {
			text[at] = c
			fill(at + 1)
		}
	}
	for _, start := range []int{7, 6, 5} {
		copy(text, []rune("&#x104100"))
		fill(start)
	}
}

func FuzzLikePattern(f *testing.F) {
	for _, e := range references {
		f.Add("a" + e.text + "b")
	}
	for _, s := range noReferences {
		f.Add(s)
	}
	f.Fuzz(func(t *testing.T, s string) { likePattern(t, []rune(s)) })
}

// Tests of the rules that hold everywhere.

func TestNothingIsNothing(t *testing.T) {
	for _, r := range [][]rune{nil, {}} {
		if c, n := ncr.Scan(r); c != 0 || n != 0 {
			t.Errorf("%x, %d", c, n)
		}
		if ncr.Has(r) || len(ncr.Expand(r)) != 0 {
			t.Errorf("%v, %x", ncr.Has(r), ncr.Expand(r))
		}
	}
}

// What stands in the spare room is no part of the text.
func TestSpareRoomIsNotRead(t *testing.T) {
	room := []rune("&#x00E9;")
	for end := range room {
		part := room[:end]
		if _, n := ncr.Scan(part); n != 0 || ncr.Has(part) || !slices.Equal(ncr.Expand(part), part) {
			t.Errorf("%s: read behind its end", string(part))
		}
	}
}

func TestNothingIsChangedOrShared(t *testing.T) {
	room := []rune("a&#x00E9;b&#xD800;spare")
	was := slices.Clone(room)
	text := room[:18]
	ncr.Scan(text[1:])
	ncr.Has(text)
	one, two := ncr.Expand(text), ncr.Expand(text)
	plain := ncr.Expand(text[9:])
	if !slices.Equal(room, was) {
		t.Errorf("changed to %q", string(room))
	}
	clear(one[:cap(one)])
	clear(room)
	if string(two) != "aéb&#xD800;" || string(plain) != "b&#xD800;" {
		t.Errorf("shared: %q, %q", string(two), string(plain))
	}
	first, _ := ncr.Print(0xe9)
	second, _ := ncr.Print(0xe9)
	clear(first[:cap(first)])
	if third, _ := ncr.Print(0xe9); string(second) != "&#x00E9;" || string(third) != "&#x00E9;" {
		t.Errorf("shared: %s, %s", second, third)
	}
}
