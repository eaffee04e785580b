package pairs_test

import (
	"math"
	"slices"
	"strconv"
	"strings"
	"testing"

	"amanuensis/pairs"
)

// words are the chapter's own: a mark, and behind it the letters that take it,
// each with what both are.
const words = `
0300 AÀEÈIÌOÒUÙaàeèiìoòuùNǸnǹWẀwẁYỲyỳÂẦâầÊỀêềÔỒôồĂẰăằƠỜơờƯỪưừÜǛüǜĒḔēḕŌṐōṑЕЀеѐИЍиѝαὰεὲηὴιὶοὸυὺωὼ
0301 AÁEÉIÍOÓUÚYÝaáeéiíoóuúyýCĆcćLĹlĺNŃnńRŔrŕSŚsśZŹzźGǴgǵKḰkḱMḾmḿPṔpṕWẂwẃÂẤâấÊẾêếÔỐôốĂẮăắƠỚơớƯỨưứÜǗüǘÆǼæǽØǾøǿГЃгѓКЌкќΑΆΕΈΗΉΙΊΟΌΥΎΩΏαάεέηήιίοόυύωώϊΐϋΰ
0302 AÂEÊIÎOÔUÛaâeêiîoôuûCĈcĉGĜgĝHĤhĥJĴjĵSŜsŝWŴwŵYŶyŷZẐzẑẠẬạậẸỆẹệỌỘọộ
0303 AÃNÑOÕaãnñoõIĨiĩUŨuũVṼvṽYỸyỹEẼeẽÂẪâẫÊỄêễÔỖôỗĂẴăẵƠỠơỡƯỮưữ
0304 AĀEĒIĪOŌUŪaāeēiīoōuūYȲyȳGḠgḡÆǢæǣÄǞäǟÖȪöȫÕȬõȭИӢиӣУӮуӯ
0306 AĂEĔGĞIĬOŎUŬaăeĕgğiĭoŏuŭẠẶạặИЙийУЎуўЖӁжӂАӐаӑЕӖеӗ
0307 CĊcċEĖeėGĠgġIİZŻzżAȦaȧOȮoȯBḂbḃDḊdḋFḞfḟHḢhḣMṀmṁNṄnṅPṖpṗRṘrṙSṠsṡTṪtṫWẆwẇXẊxẋYẎyẏ
0308 AÄEËIÏOÖUÜaäeëiïoöuüyÿYŸHḦhḧWẄwẅXẌxẍtẗЕЁеёІЇіїАӒаӓЖӜжӝЗӞзӟИӤиӥОӦоӧУӰуӱЧӴчӵЫӸыӹЭӬэӭΙΪΥΫιϊυϋ
0309 AẢaảEẺeẻIỈiỉOỎoỏUỦuủYỶyỷÂẨâẩÊỂêểÔỔôổĂẲăẳƠỞơởƯỬưử
030A AÅaåUŮuůwẘyẙ
030B OŐoőUŰuű
030C CČcčDĎdďEĚeěNŇnňRŘrřSŠsšTŤtťZŽzžAǍaǎIǏiǐOǑoǒUǓuǔGǦgǧKǨkǩjǰHȞhȟÜǙüǚƷǮʒǯ
031B OƠoơUƯuư
0323 AẠaạBḄbḅDḌdḍEẸeẹHḤhḥIỊiịKḲkḳLḶlḷMṂmṃNṆnṇOỌoọRṚrṛSṢsṣTṬtṭUỤuụVṾvṿWẈwẉYỴyỵZẒzẓƠỢơợƯỰưự
0327 CÇcçGĢKĶkķLĻlļNŅnņRŖrŗSŞsşTŢtţEȨeȩHḨhḩDḐdḑ
0328 AĄaąEĘeęIĮiįUŲuųOǪoǫ
0331 BḆbḇDḎdḏKḴkḵLḺlḻNṈnṉRṞrṟTṮtṯZẔzẕhẖ
0342 αᾶηῆιῖυῦωῶ
0345 αᾳηῃωῳάᾴήῄώῴᾶᾷῆῇῶῷ
0313 αἀεἐηἠιἰοὀυὐωὠρῤ
0314 αἁεἑηἡιἱοὁυὑωὡρῥ
0653 اآ
0654 اأوؤيئ
0655 اإ
3099 かがきぎくぐけげこごさざしじすずせぜそぞただちぢつづてでとどはばひびふぶへべほぼカガキギクグケゲコゴサザシジスズセゼソゾタダチヂツヅテデトドハバヒビフブヘベホボウヴ
309A はぱひぴふぷへぺほぽハパヒピフプヘペホポ
`

// alone are the chapter's own words, too: what is another one. The one with
// two behind it is a pair that is not joined.
const alone = "0340 0300, 0341 0301, 0343 0313, 0344 0308 0301, 0374 02B9, 037E 003B, 0387 00B7, 2126 03A9, 212A 004B, 212B 00C5"

// hebrew are the other pairs that are not joined.
const hebrew = "FB2E 05D0 05B7, FB2F 05D0 05B8"

type pair struct{ a, b rune }

type parts struct {
	a, b rune
	n    int
}

func number(t *testing.T, digits string) rune {
	n, err := strconv.ParseInt(digits, 16, 32)
	if err != nil {
		t.Fatal(err)
	}
	return rune(n)
}

// toldJoins answers the pairs that are joined, by the chapter's words.
func toldJoins(t *testing.T) map[pair]rune {
	joins := map[pair]rune{}
	for _, row := range strings.Split(strings.TrimSpace(words), "\n") {
		mark, letters, _ := strings.Cut(row, " ")
		list := []rune(letters)
		if len(list) == 0 || len(list)%2 != 0 {
			t.Fatalf("%q: no pairs", row)
		}
		for i := 0; i < len(list); i += 2 {
			p := pair{list[i], number(t, mark)}
			if joins[p] != 0 {
				t.Fatalf("%x: told twice", p)
			}
			joins[p] = list[i+1]
		}
	}
	return joins
}

// toldSplits answers all that are split, by the chapter's words.
func toldSplits(t *testing.T) map[rune]parts {
	splits := map[rune]parts{}
	add := func(r rune, p parts) {
		if splits[r].n != 0 {
			t.Fatalf("%x: told twice", r)
		}
		splits[r] = p
	}
	for p, r := range toldJoins(t) {
		add(r, parts{p.a, p.b, 2})
	}
	for _, row := range strings.Split(alone+", "+hebrew, ", ") {
		digits := strings.Fields(row)
		p := parts{a: number(t, digits[1]), n: len(digits) - 1}
		if p.n == 2 {
			p.b = number(t, digits[2])
		}
		add(number(t, digits[0]), p)
	}
	return splits
}

// splitLike holds Split against what is wanted.
func splitLike(t *testing.T, r rune, want parts) {
	t.Helper()
	if a, b, n := pairs.Split(r); (parts{a, b, n}) != want {
		t.Errorf("%x: %x %x %d, not %x", r, a, b, n, want)
	}
}

// joinLike holds Join against what is wanted, 0 for a pair that is not joined.
func joinLike(t *testing.T, a, b, want rune) {
	t.Helper()
	if r, ok := pairs.Join(a, b); r != want || ok != (want != 0) {
		t.Errorf("%x and %x: %x, %v, not %x", a, b, r, ok, want)
	}
}

// ends are numbers at the ends of their type, and of what may be a character.
var ends = []rune{math.MinInt32, -0x110000, -1, 0, 1, 0xd800, 0xdfff, 0x10ffff, 0x110000, math.MaxInt32}

// unlisted are Unicode's, and not the chapter's.
var unlisted = []struct{ r, a, b rune }{
	{0x123, 'g', 0x327}, // its capital is listed
	{0x1e08, 0xc7, 0x301},
	{0x1e2f, 0xef, 0x301},
	{0x1e9b, 0x17f, 0x307},
	{0x1ed, 0x1eb, 0x304},
	{0x200, 'A', 0x30f},
	{0x201, 'a', 0x30f},
	{0x219, 's', 0x326},
	{0x1e1a, 'E', 0x330},
	{0x226e, '<', 0x338},
	{0x385, 0xa8, 0x301},
	{0x1fba, 0x391, 0x300},
	{0x1f08, 0x391, 0x313},
	{0x1f02, 0x1f00, 0x300},
	{0x6c2, 0x6c1, 0x654},
	{0x929, 0x928, 0x93c},
	{0x309e, 0x309d, 0x3099},
	{0x30f7, 0x30ef, 0x3099},
	{0x3094, 0x3046, 0x3099}, // ウ takes it, う does not
	{0xfb1d, 0x5d9, 0x5b4},
	{0xfb30, 0x5d0, 0x5bc},
	{0xac00, 0x1100, 0x1161}, // chapter 5's
	{0xac01, 0xac00, 0x11a8},
	{0x1f71, 0x3ac, 0},
	{0x1fef, 0x60, 0},
	{0x1ffd, 0xb4, 0},
	{0x2000, 0x2002, 0},
	{0xf900, 0x8c48, 0},
	{0x1d15e, 0x1d157, 0x1d165},
}

// Tests of P4.1: Split.

func TestSplitByHand(t *testing.T) {
	for r, want := range map[rune]parts{
		0xe9:   {'e', 0x301, 2},
		0xc0:   {'A', 0x300, 2},
		0x122:  {'G', 0x327, 2},
		0x130:  {'I', 0x307, 2},
		0x1ea5: {0xe2, 0x301, 2}, // of its parts, one is a pair
		0x390:  {0x3ca, 0x301, 2},
		0x1fb7: {0x1fb6, 0x345, 2},
		0x626:  {0x64a, 0x654, 2},
		0x30dd: {0x30db, 0x309a, 2},
		0x30f4: {0x30a6, 0x3099, 2},
		0x340:  {0x300, 0, 1},
		0x344:  {0x308, 0x301, 2},
		0x37e:  {';', 0, 1},
		0x212a: {'K', 0, 1},
		0x212b: {0xc5, 0, 1}, // not further: Å is a pair itself
		0xfb2e: {0x5d0, 0x5b7, 2},
		0xfb2f: {0x5d0, 0x5b8, 2},
	} {
		splitLike(t, r, want)
	}
}

func TestEveryNumberIsSplitAsTold(t *testing.T) {
	splits := toldSplits(t)
	for r := rune(-0x110000); r < 0x220000; r++ {
		splitLike(t, r, splits[r])
	}
}

func TestNothingElseIsSplit(t *testing.T) {
	for _, r := range ends {
		splitLike(t, r, parts{})
	}
	for _, u := range unlisted {
		splitLike(t, u.r, parts{})
	}
}

// Numbers whose lower bits are those of a character are other ones, or none.
func TestNumbersWithLowerBitsOfOneThatIsSplit(t *testing.T) {
	for r := range toldSplits(t) {
		for bit := 16; bit < 32; bit++ {
			splitLike(t, r|1<<bit, parts{})
		}
		splitLike(t, -r, parts{})
	}
}

// Tests of P4.1: Join.

func TestEveryPairIsJoined(t *testing.T) {
	for p, r := range toldJoins(t) {
		joinLike(t, p.a, p.b, r)
	}
}

func TestNotJoined(t *testing.T) {
	for _, p := range []pair{{0x308, 0x301}, {0x5d0, 0x5b7}, {0x5d0, 0x5b8}} {
		joinLike(t, p.a, p.b, 0)
	}
	for r, p := range toldSplits(t) {
		if p.n == 1 {
			joinLike(t, p.a, 0, 0)
			joinLike(t, p.a, r, 0)
			joinLike(t, 0, p.a, 0)
		}
	}
	for _, u := range unlisted {
		joinLike(t, u.a, u.b, 0)
	}
}

func TestEveryNumberWithEveryMark(t *testing.T) {
	joins := toldJoins(t)
	marks := map[rune]bool{}
	for p := range joins {
		marks[p.b] = true
	}
	for b := range marks {
		for a := rune(-0x100); a < 0x11000; a++ {
			joinLike(t, a, b, joins[pair{a, b}])
		}
	}
}

func TestEveryLetterWithEveryNumber(t *testing.T) {
	joins := toldJoins(t)
	letters := map[rune]bool{}
	for p := range joins {
		letters[p.a] = true
	}
	for a := range letters {
		for b := rune(-0x100); b < 0x3200; b++ {
			joinLike(t, a, b, joins[pair{a, b}])
		}
	}
}

func TestNumbersWithLowerBitsOfAPair(t *testing.T) {
	for p := range toldJoins(t) {
		for bit := 16; bit < 32; bit++ {
			joinLike(t, p.a|1<<bit, p.b, 0)
			joinLike(t, p.a, p.b|1<<bit, 0)
		}
		joinLike(t, p.b, p.a, 0)
		joinLike(t, -p.a, p.b, 0)
		joinLike(t, p.a, -p.b, 0)
	}
}

func TestEndsAreNotJoined(t *testing.T) {
	for _, a := range ends {
		for _, b := range append([]rune{'a', 0x301, 0x3099}, ends...) {
			joinLike(t, a, b, 0)
			joinLike(t, b, a, 0)
		}
	}
}

// Tests of P4.1: All.

func TestAllAreThoseThatAreSplit(t *testing.T) {
	var want []rune
	for r := range toldSplits(t) {
		want = append(want, r)
	}
	slices.Sort(want)
	if list := pairs.All(); !slices.Equal(list, want) {
		t.Errorf("%x, not %x", list, want)
	}
}

// Tests of the rules that hold everywhere.

func TestAllIsNewMemory(t *testing.T) {
	first, second := pairs.All(), pairs.All()
	was := slices.Clone(second)
	clear(first[:cap(first)])
	if !slices.Equal(second, was) || !slices.Equal(pairs.All(), was) {
		t.Errorf("shared: %x", second)
	}
	splitLike(t, 0xe9, parts{'e', 0x301, 2})
	joinLike(t, 'e', 0x301, 0xe9)
}
