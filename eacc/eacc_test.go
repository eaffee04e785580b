package eacc_test

import (
	"math"
	"slices"
	"testing"

	"amanuensis/api"
	"amanuensis/class"
	"amanuensis/eacc"
	"amanuensis/utf"
)

// ideographs are the chapter's by their numbers, from each row's first code on:
// those that look alike are told from each other here.
var ideographs = map[int][]rune{
	0x213021: {
		0x4e00, 0x4e01, 0x4e03, 0x4e08, 0x4e09, 0x4e0b, 0x4e0a, 0x4e0d, 0x4e11, 0x4e14, 0x4e16, 0x4e18,
		0x4e19, 0x4e26, 0x4e2d, 0x4e38, 0x4e39, 0x4e3b, 0x4e43, 0x4e45, 0x4e4b, 0x4e4d, 0x4e4e, 0x4e4f,
		0x4e56, 0x4e58, 0x4e59, 0x4e5d, 0x4e5e, 0x4e5f, 0x4e73, 0x4e7e, 0x4e82, 0x4e86, 0x4e88, 0x4e8b,
		0x4e8c, 0x4e8e, 0x4e91, 0x4e92, 0x4e94, 0x4e95, 0x4e9b, 0x4e9e, 0x4ea1, 0x4ea4, 0x4ea5, 0x4ea6,
		0x4ea8, 0x4eab, 0x4eac, 0x4ead, 0x4eba, 0x4ec0, 0x4ec1, 0x4ec7, 0x4eca, 0x4ecb, 0x4ecd, 0x4ed6,
		0x4ed8, 0x4ed9, 0x4ee3, 0x4ee4, 0x4ee5, 0x4ef0, 0x4ef2, 0x4ef6, 0x4efb, 0x4f01, 0x4f0a, 0x4f0d,
		0x4f11, 0x4f0f, 0x4f2f, 0x4f34, 0x4f38, 0x4f3c, 0x4f4d, 0x4f4e, 0x4f4f, 0x4f55, 0x4f59, 0x4f5b,
		0x4f5c, 0x4f60, 0x4f69, 0x4f73, 0x4f7f, 0x4f86, 0x4f8b, 0x4f9b, 0x4f9d, 0x4fbf,
	},
	0x213121: {
		0x4fc2, 0x4fc3, 0x4fc4, 0x4fca, 0x4fd7, 0x4fdd, 0x4fe1, 0x4fee, 0x500b, 0x500d, 0x5012, 0x5019,
		0x501f, 0x502b, 0x503c, 0x5047, 0x5049, 0x504f, 0x5065, 0x5074, 0x5076, 0x508d, 0x5091, 0x5099,
		0x50b3, 0x50b7, 0x50cf, 0x50c5, 0x50d1, 0x5100, 0x5104, 0x5112, 0x512a, 0x5143, 0x5144, 0x5145,
		0x5146, 0x5148, 0x5149, 0x514b, 0x514d, 0x5152, 0x5165, 0x5167, 0x5168, 0x5169, 0x516b, 0x516c,
		0x516d, 0x5171, 0x5175, 0x5176, 0x5177, 0x5178, 0x518d, 0x518a, 0x51ac, 0x51b0, 0x51b7, 0x51c6,
		0x51e1, 0x51fa, 0x5200, 0x5206, 0x5207, 0x5211, 0x5217, 0x521d, 0x5224, 0x5225, 0x5229, 0x5230,
		0x5236, 0x523a, 0x523b, 0x5247, 0x524d, 0x525b, 0x5275, 0x529b, 0x529f,
	},
}

// spans are the chapter's kana: the first and the last code, and the first's
// character.
var spans = []struct {
	first, last int
	r           rune
}{
	{0x692421, 0x692473, 0x3041},
	{0x692521, 0x692576, 0x30a1},
}

var signs = map[int]rune{
	0x212321: 0x3000, 0x212328: 0x3001, 0x212329: 0x3002,
	0x21232a: 0x300c, 0x21232b: 0x300d, 0x69262c: 0x30fc,
}

var alternates = map[int]rune{
	0x273021: 0x4e00, 0x273024: 0x4e08, 0x27302d: 0x4e18, 0x334e21: 0x300c,
}

// told answers all codes that the chapter tells, with their characters.
func told() map[int]rune {
	all := map[int]rune{}
	for first, row := range ideographs {
		for i, r := range row {
			all[first+i] = r
		}
	}
	for _, s := range spans {
		for n := s.first; n <= s.last; n++ {
			all[n] = s.r + rune(n-s.first)
		}
	}
	for n, r := range signs {
		all[n] = r
	}
	for n, r := range alternates {
		all[n] = r
	}
	return all
}

// toldCodes answers the codes of each character that the chapter tells.
func toldCodes() map[rune][]int {
	codes := map[rune][]int{}
	for n, r := range told() {
		codes[r] = append(codes[r], n)
	}
	for _, list := range codes {
		slices.Sort(list)
	}
	return codes
}

// like holds a code's answers against what is wanted, 0 for none.
func like(t *testing.T, n int, want rune) {
	t.Helper()
	if r, ok := eacc.Rune(n); r != want || ok != (want != 0) {
		t.Errorf("Rune(%x): %x, %v, not %x", n, r, ok, want)
	}
	if got := eacc.Alternate(n); got != (alternates[n] != 0) {
		t.Errorf("Alternate(%x): %v", n, got)
	}
}

// codesLike holds a character's codes against those wanted.
func codesLike(t *testing.T, r rune, want ...int) {
	t.Helper()
	if got := eacc.Codes(r); !slices.Equal(got, want) {
		t.Errorf("Codes(%x): %x, not %x", r, got, want)
	}
}

// Tests of P12.1.

func TestExamples(t *testing.T) {
	like(t, 0x213021, 0x4e00)
	like(t, '!'<<16|'0'<<8|'!', 0x4e00) // the document's example 4
	like(t, 0x273021, 0x4e00)
	codesLike(t, 0x4e00, 0x213021, 0x273021)
}

// All numbers of three bytes whose first is below 80, and more ahead of them.
func TestEveryNumberIsAsTold(t *testing.T) {
	all := told()
	for n := -0x10000; n < 0x800000; n++ {
		want, is := all[n]
		if r, ok := eacc.Rune(n); r != want || ok != is {
			t.Fatalf("Rune(%x): %x, %v, not %x", n, r, ok, want)
		}
		if got := eacc.Alternate(n); got != (alternates[n] != 0) {
			t.Fatalf("Alternate(%x): %v", n, got)
		}
	}
}

// All characters, and numbers ahead of them and behind.
func TestEveryCharacterIsAsTold(t *testing.T) {
	codes := toldCodes()
	for r := rune(-0x10000); r < 0x120000; r++ {
		if got := eacc.Codes(r); !slices.Equal(got, codes[r]) {
			t.Fatalf("Codes(%x): %x, not %x", r, got, codes[r])
		}
	}
}

func TestHowManyThereAre(t *testing.T) {
	codes, others := 0, 0
	for place := range 94 * 94 * 94 {
		n := (0x21+place/94/94)<<16 | (0x21+place/94%94)<<8 | (0x21 + place%94)
		if _, ok := eacc.Rune(n); ok {
			codes++
		}
		if eacc.Alternate(n) {
			others++
		}
	}
	if codes != 83+86+6+175+4 || others != 4 {
		t.Errorf("%d codes, %d of them alternates", codes, others)
	}
}

// A row has 94 ideographs. Where the chapter's lines end is no row's end.
func TestRowsOfIdeographs(t *testing.T) {
	for n, want := range map[int]rune{
		0x213020: 0, 0x213021: 0x4e00, 0x213022: 0x4e01,
		0x213076: 0x4f60, 0x213077: 0x4f69, // the ends of the chapter's lines
		0x21307d: 0x4f9d, 0x21307e: 0x4fbf, 0x21307f: 0, 0x213080: 0, 0x2130ff: 0,
		0x213100: 0, 0x213120: 0, 0x213121: 0x4fc2, 0x213122: 0x4fc3,
		0x213170: 0x529b, 0x213171: 0x529f, 0x213172: 0, 0x21317e: 0, 0x213221: 0,
	} {
		like(t, n, want)
		if want != 0 && want != 0x4e00 {
			codesLike(t, want, n)
		}
	}
}

func TestEdgesOfKana(t *testing.T) {
	for n, want := range map[int]rune{
		0x692420: 0, 0x692421: 0x3041, 0x692422: 0x3042, 0x692472: 0x3092, 0x692473: 0x3093, 0x692474: 0, 0x69247e: 0,
		0x692520: 0, 0x692521: 0x30a1, 0x692522: 0x30a2, 0x692575: 0x30f5, 0x692576: 0x30f6, 0x692577: 0, 0x69257e: 0,
		0x692321: 0, 0x692621: 0, 0x692c21: 0,
	} {
		like(t, n, want)
		if want != 0 {
			codesLike(t, want, n)
		}
	}
	for _, r := range []rune{0x3040, 0x3094, 0x3099, 0x309b, 0x309d, 0x30a0, 0x30f7, 0x30fb, 0x30fd} {
		codesLike(t, r)
	}
}

func TestSigns(t *testing.T) {
	for n, want := range signs {
		like(t, n, want)
		if want != 0x300c {
			codesLike(t, want, n)
		}
	}
	for _, n := range []int{0x212320, 0x212322, 0x212327, 0x21232c, 0x69262b, 0x69262d, 0x692621} {
		like(t, n, 0)
	}
	for _, r := range []rune{0x20, 0x2fff, 0x3003, 0x300a, 0x300b, 0x300e, 0x300f, 0x30fb} {
		codesLike(t, r)
	}
}

func TestAlternates(t *testing.T) {
	codesLike(t, 0x4e00, 0x213021, 0x273021)
	codesLike(t, 0x4e08, 0x213024, 0x273024)
	codesLike(t, 0x4e18, 0x21302c, 0x27302d) // one behind the other's place
	codesLike(t, 0x300c, 0x21232a, 0x334e21)
	for n, want := range alternates {
		like(t, n, want)
		for _, beside := range []int{n - 1, n + 1, n - 0x100, n + 0x100, n - 0x10000, n + 0x10000} {
			like(t, beside, told()[beside])
		}
	}
	like(t, 0x27302c, 0) // where an alternate would stand if places were the same
	like(t, 0x21302d, 0x4e19)
}

// What an alternate stands for, a code that is none stands for, too; no
// character has two of the one or of the other.
func TestOneUsualCodeEach(t *testing.T) {
	for r := range toldCodes() {
		usual, others := 0, 0
		for _, n := range eacc.Codes(r) {
			if eacc.Alternate(n) {
				others++
			} else {
				usual++
			}
		}
		if usual != 1 || others > 1 {
			t.Errorf("%x: %d codes, %d alternates", r, usual, others)
		}
	}
}

func TestThereAndBack(t *testing.T) {
	for n, r := range told() {
		list := eacc.Codes(r)
		if !slices.Contains(list, n) {
			t.Errorf("Codes(%x): %x, without %x", r, list, n)
		}
		for i, n := range list {
			like(t, n, r)
			if i > 0 && list[i-1] >= n {
				t.Errorf("Codes(%x): %x do not rise", r, list)
			}
		}
	}
}

// Each is a scalar and no mark, and its code has three bytes from 21 to 7E.
func TestWhatCodesAndCharactersAre(t *testing.T) {
	for n := range told() {
		r, ok := eacc.Rune(n)
		if !ok || !utf.Scalar(r) || class.Mark(r) {
			t.Errorf("Rune(%x): %x", n, r)
		}
		for _, b := range []int{n >> 16, n >> 8 & 0xff, n & 0xff} {
			if b < 0x21 || b > 0x7e {
				t.Errorf("%x has the byte %x", n, b)
			}
		}
	}
}

// Numbers with the lower bits of a code are others; so are those with bytes of
// the other side, 80 above, and with bytes that are exchanged or lack.
func TestNumbersLikeCodes(t *testing.T) {
	all := told()
	for n := range all {
		for bit := 23; bit < 64; bit++ {
			like(t, n|1<<bit, 0)
		}
		for _, other := range []int{
			-n, ^n, n | 0x80, n | 0x8000, n | 0x8080, n | 0x808080,
			n & 0xff, n & 0xffff, n >> 8, n >> 16, n << 8,
		} {
			like(t, other, 0)
		}
		high, mid, low := n>>16, n>>8&0xff, n&0xff
		for _, other := range []int{low<<16 | mid<<8 | high, mid<<16 | high<<8 | low, high<<16 | low<<8 | mid} {
			like(t, other, all[other])
		}
	}
}

// A character's number is no code, and a code's is no character.
func TestCodesAndCharactersAreNotExchanged(t *testing.T) {
	for n, r := range told() {
		like(t, int(r), 0)
		codesLike(t, rune(n))
		codesLike(t, -r)
		codesLike(t, ^r)
		for bit := 16; bit < 31; bit++ {
			codesLike(t, r|1<<bit)
		}
		codesLike(t, r|math.MinInt32)
	}
}

func TestNumbersAtTheirEnds(t *testing.T) {
	for _, n := range []int{
		math.MinInt, math.MinInt + 1, math.MinInt + 0x213021, math.MinInt32 - 1, math.MinInt32,
		math.MinInt32 + 0x213021, -1, 0, 1, 0x21, 0x7e, 0x2121, 0x212120, 0x212121, 0x7e7e7e, 0x7e7e7f,
		0xffffff, 1 << 24, math.MaxInt32 - 1, math.MaxInt32, math.MaxInt32 + 1, math.MaxUint32, 1 << 32,
		1<<32 + 0x213021, math.MaxInt - 1, math.MaxInt,
	} {
		like(t, n, 0)
	}
	for _, r := range []rune{
		math.MinInt32, math.MinInt32 + 1, -1, 0, 1, 'a', 0x7f, 0x80, 0xd800, 0xdfff, 0xf900, 0xfffd,
		0xffff, 0x10000, api.MaxScalar, api.MaxScalar + 1, math.MaxInt32 - 1, math.MaxInt32,
	} {
		codesLike(t, r)
	}
}

// Other shapes of the chapter's ideographs, those of the same look by other
// numbers among them, and others near to them.
func TestOtherIdeographs(t *testing.T) {
	for _, r := range []rune{
		0x4e0e, 0x4e21, 0x4e24, 0x4e2a, 0x4e71, 0x4e9a, 0x4ec5, 0x5185, 0x6765, // of today
		0x2f00, 0x2f06, 0xf967, 0xf978, 0xf9d1, 0xfa78, // of the same look
		0x33ff, 0x3400, 0x4dff, 0x4e02, 0x52a0, 0x9fff, 0x20000,
	} {
		codesLike(t, r)
	}
}

// Tests of the rules that hold everywhere.

// Who is answered may change the list, and put more behind it.
func TestListsAreNewMemory(t *testing.T) {
	for r, want := range toldCodes() {
		first, second := eacc.Codes(r), eacc.Codes(r)
		for i := range first[:cap(first)] {
			first[:cap(first)][i] = -1
		}
		if !slices.Equal(second, want) {
			t.Errorf("Codes(%x): %x, when another answer was changed", r, second)
		}
		codesLike(t, r, want...)
	}
}

func TestSameAgain(t *testing.T) {
	all, codes := told(), toldCodes()
	for range 2 {
		for n := 0x692700; n >= 0x692300; n-- {
			like(t, n, all[n])
			like(t, n, all[n])
		}
		for r := rune(0x5300); r >= 0x4dff; r-- {
			codesLike(t, r, codes[r]...)
			codesLike(t, r, codes[r]...)
		}
	}
}
