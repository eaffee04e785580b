package cluster_test

import (
	"math"
	"slices"
	"testing"

	"amanuensis/class"
	"amanuensis/cluster"
	"amanuensis/glyph"
	"amanuensis/nfd"
	"amanuensis/pairs"
)

// noScalars are numbers that are no characters, and those at the type's ends.
var noScalars = []rune{0xd800, 0xdfff, 0x110000, math.MaxInt32, math.MinInt32, -1, 0x80000000 - 0x10000, -0x301}

// lone are the five that have no code and no marks, and yet have a way.
var lone = []rune{0x20, 0x98, 0x9c, 0x200c, 0x200d}

// coded are all characters with a code that are split: the letter, the mark (0
// of one that is another one) and both, from the chapters' lists.
var coded = [][3]rune{
	{';', 0, 0x37e}, {0xb7, 0, 0x387}, {0x2b9, 0, 0x374},
	{'O', 0x31b, 0x1a0}, {'U', 0x31b, 0x1af}, {'o', 0x31b, 0x1a1}, {'u', 0x31b, 0x1b0},
	{0x627, 0x653, 0x622}, {0x627, 0x654, 0x623}, {0x648, 0x654, 0x624}, {0x627, 0x655, 0x625}, {0x64a, 0x654, 0x626},
	{'и', 0x306, 'й'}, {'И', 0x306, 'Й'}, {'у', 0x306, 'ў'}, {'У', 0x306, 'Ў'},
	{'г', 0x301, 'ѓ'}, {'Г', 0x301, 'Ѓ'}, {'к', 0x301, 'ќ'}, {'К', 0x301, 'Ќ'},
	{'е', 0x308, 'ё'}, {'Е', 0x308, 'Ё'}, {'і', 0x308, 'ї'}, {'І', 0x308, 'Ї'},
	{'ウ', 0x3099, 'ヴ'},
}

// voiced are the letters of kana that have 3099, each with both; rounded those
// that have 309A.
const (
	voiced = "かがきぎくぐけげこごさざしじすずせぜそぞただちぢつづてでとどはばひびふぶへべほぼ" +
		"カガキギクグケゲコゴサザシジスズセゼソゾタダチヂツヅテデトドハバヒビフブヘベホボ"
	rounded = "はぱひぴふぷへぺほぽハパヒピフプヘペホポ"
)

// allCoded answers coded, and the kana.
func allCoded() [][3]rune {
	list := slices.Clone(coded)
	for mark, text := range map[rune]string{0x3099: voiced, 0x309a: rounded} {
		letters := []rune(text)
		for i := 0; i < len(letters); i += 2 {
			list = append(list, [3]rune{letters[i], mark, letters[i+1]})
		}
	}
	return list
}

func sameWay(a, b cluster.Way) bool {
	return a.Base == b.Base && slices.Equal(a.Rest, b.Rest)
}

func sameLists(a, b [][]rune) bool {
	return slices.EqualFunc(a, b, slices.Equal[[]rune])
}

// way is a way, told by its Base and its Rest.
func way(base rune, rest ...rune) cluster.Way {
	return cluster.Way{Base: base, Rest: rest}
}

func clustersLike(t *testing.T, r []rune, want ...[]rune) {
	t.Helper()
	if got := cluster.Clusters(r); !sameLists(got, want) {
		t.Errorf("Clusters(%x): %x, not %x", r, got, want)
	}
}

func waysLike(t *testing.T, c []rune, want ...cluster.Way) {
	t.Helper()
	if got := cluster.Ways(c); !slices.EqualFunc(got, want, sameWay) {
		t.Errorf("Ways(%x): %x, not %x", c, got, want)
	}
}

func ordersLike(t *testing.T, rest []rune, want ...[]rune) {
	t.Helper()
	if got := cluster.Orders(rest); !sameLists(got, want) {
		t.Errorf("Orders(%x): %x, not %x", rest, got, want)
	}
}

// eachText tells do all texts of the characters up to a length.
func eachText(characters []rune, length int, do func([]rune)) {
	texts := [][]rune{nil}
	for range length + 1 {
		var longer [][]rune
		for _, text := range texts {
			do(text)
			for _, c := range characters {
				longer = append(longer, append(slices.Clone(text), c))
			}
		}
		texts = longer
	}
}

// P16.1, Clusters.

func TestClustersByHand(t *testing.T) {
	clustersLike(t, nil)
	clustersLike(t, []rune{})
	clustersLike(t, []rune("a"), []rune("a"))
	clustersLike(t, []rune("ab "), []rune("a"), []rune("b"), []rune(" "))
	clustersLike(t, []rune{'e', 0x301}, []rune{'e', 0x301})
	clustersLike(t, []rune{0xe9}, []rune{'e', 0x301})
	clustersLike(t, []rune{'a', 0xe9, 'b'}, []rune{'a'}, []rune{'e', 0x301}, []rune{'b'})
	clustersLike(t, []rune{0x1ec7}, []rune{'e', 0x323, 0x302})
	clustersLike(t, []rune{'e', 0x302, 0x323, 'x'}, []rune{'e', 0x323, 0x302}, []rune{'x'})
	clustersLike(t, []rune{0xe9, 0x323}, []rune{'e', 0x323, 0x301})
	clustersLike(t, []rune{' ', 0x301, 0x20, 0x200d, 0x301}, []rune{' ', 0x301}, []rune{' '}, []rune{0x200d, 0x301})
	clustersLike(t, []rune{0xac01, 0x301}, []rune{0x1100}, []rune{0x1161}, []rune{0x11a8, 0x301})
	clustersLike(t, []rune{0xac00}, []rune{0x1100}, []rune{0x1161})
	clustersLike(t, []rune{0x37e, 0x212b}, []rune{';'}, []rune{'A', 0x30a})
	clustersLike(t, []rune{0xfb2e, 0xfb1e}, []rune{0x5d0, 0x5b7, 0xfb1e})
	clustersLike(t, []rune{'a', 'a', 'a'}, []rune{'a'}, []rune{'a'}, []rune{'a'})
}

func TestMarksAheadOfStarters(t *testing.T) {
	clustersLike(t, []rune{0x301}, []rune{0x301})
	clustersLike(t, []rune{0x301, 0x300}, []rune{0x301, 0x300})
	clustersLike(t, []rune{0x301, 0x323, 'a', 0x301}, []rune{0x323, 0x301}, []rune{'a', 0x301})
	clustersLike(t, []rune{0x344, 'a'}, []rune{0x308, 0x301}, []rune{'a'})
	clustersLike(t, []rune{0x340, 0x3099}, []rune{0x3099, 0x300})
}

func TestClustersOfNoScalars(t *testing.T) {
	for _, n := range noScalars {
		clustersLike(t, []rune{n}, []rune{n})
		clustersLike(t, []rune{'a', n, 0x301, n}, []rune{'a'}, []rune{n, 0x301}, []rune{n})
	}
}

// toldClusters cuts r's NFD from its end on, ahead of each starter.
func toldClusters(r []rune) [][]rune {
	var list [][]rune
	text := nfd.NFD(r)
	end := len(text)
	for at := end - 1; at >= 0; at-- {
		if at == 0 || class.Of(text[at]) == 0 {
			list = slices.Insert(list, 0, text[at:end])
			end = at
		}
	}
	return list
}

func TestClustersOfAllShortTexts(t *testing.T) {
	characters := []rune{'a', ' ', 0xe9, 0x301, 0x323, 0x345, 0x344, 0xac01, 0x1ec7, -1}
	eachText(characters, 4, func(r []rune) { clustersLike(t, r, toldClusters(r)...) })
}

func TestClustersOfEveryNumber(t *testing.T) {
	for r := rune(0); r <= 0x110000; r++ {
		clustersLike(t, []rune{r, 0x301}, toldClusters([]rune{r, 0x301})...)
	}
}

func TestClustersOfALongText(t *testing.T) {
	var r []rune
	for range 50000 {
		r = append(r, 0xe9, 0x323, 'x')
	}
	list := cluster.Clusters(r)
	if len(list) != 100000 {
		t.Fatalf("%d clusters", len(list))
	}
	for i := 0; i < len(list); i += 2 {
		if !slices.Equal(list[i], []rune{'e', 0x323, 0x301}) || !slices.Equal(list[i+1], []rune{'x'}) {
			t.Fatalf("clusters from %d: %x", i, list[i:i+2])
		}
	}
}

// P16.1, Ways.

func TestWaysByHand(t *testing.T) {
	waysLike(t, []rune{'e', 0x301}, way('e', 0x301))
	waysLike(t, []rune{'e'}, way('e'))
	waysLike(t, []rune{'e', 0x323, 0x302}, way('e', 0x323, 0x302))
	waysLike(t, []rune{'e', 0x301, 0x301}, way('e', 0x301, 0x301))
	waysLike(t, []rune{0x438, 0x306}, way(0x438, 0x306), way(0x439))
	waysLike(t, []rune{'o', 0x31b, 0x323}, way('o', 0x31b, 0x323), way(0x1a1, 0x323))
	waysLike(t, []rune{'o', 0x31b, 0x323, 0x301}, way('o', 0x31b, 0x323, 0x301), way(0x1a1, 0x323, 0x301))
	waysLike(t, []rune{';'}, way(';'), way(0x37e))
	waysLike(t, []rune{';', 0x301}, way(';', 0x301), way(0x37e, 0x301))
	waysLike(t, []rune{0xb7}, way(0xb7), way(0x387))
	waysLike(t, []rune{0x2b9}, way(0x2b9), way(0x374))
	waysLike(t, []rune{0x4e00}, way(0x4e00))
	waysLike(t, []rune{0x3000, 0x301}, way(0x3000, 0x301))
	waysLike(t, []rune{0x3b1, 0x301}, way(0x3b1, 0x301))
}

// Of a mark that comes twice the character takes the first one alone, and one
// that stands behind another of its class can't be taken ahead of it.
func TestMarksOfOneClass(t *testing.T) {
	waysLike(t, []rune{'и', 0x306, 0x306}, way('и', 0x306, 0x306), way('й', 0x306))
	waysLike(t, []rune{'и', 0x306, 0x301, 0x306}, way('и', 0x306, 0x301, 0x306), way('й', 0x301, 0x306))
	waysLike(t, []rune{'и', 0x301, 0x306}, way('и', 0x301, 0x306))
	waysLike(t, []rune{'и', 0x306, 0x301}, way('и', 0x306, 0x301), way('й', 0x301))
	waysLike(t, []rune{'и', 0x323, 0x306}, way('и', 0x323, 0x306), way('й', 0x323))
	waysLike(t, []rune{'и', 0x323, 0x301, 0x306}, way('и', 0x323, 0x301, 0x306))
	waysLike(t, []rune{'o', 0x31b, 0x31b}, way('o', 0x31b, 0x31b), way(0x1a1, 0x31b))
	waysLike(t, []rune{'o', 0x334, 0x31b}, way('o', 0x334, 0x31b), way(0x1a1, 0x334))
	waysLike(t, []rune{0x627, 0x653, 0x654}, way(0x622, 0x654), way(0x627, 0x653, 0x654))
	waysLike(t, []rune{0x627, 0x654, 0x653}, way(0x623, 0x653), way(0x627, 0x654, 0x653))
	waysLike(t, []rune{0x627, 0x655, 0x654}, way(0x623, 0x655), way(0x625, 0x654), way(0x627, 0x655, 0x654))
	waysLike(t, []rune{0x627, 0x655, 0x653}, way(0x622, 0x655), way(0x625, 0x653), way(0x627, 0x655, 0x653))
}

func TestTheLoneFive(t *testing.T) {
	for _, x := range lone {
		waysLike(t, []rune{x}, way(x))
		for _, m := range class.All() {
			waysLike(t, []rune{x, m})
		}
		waysLike(t, []rune{x, 0x323, 0x301})
		waysLike(t, []rune{x, x})
		waysLike(t, []rune{0x301, x})
	}
	for _, x := range lone {
		for _, other := range []rune{x - 1, x + 1} {
			if !slices.Contains(lone, other) && other != '!' {
				waysLike(t, []rune{other})
			}
		}
	}
}

func TestNoWays(t *testing.T) {
	for _, c := range [][]rune{
		nil,
		{},
		{0x301},                            // begins with a mark
		{0x323, 0x301},                     //
		{0xfb1e},                           //
		{0x301, 'e'},                       // two clusters
		{'e', 'e'},                         //
		{'e', 0x301, 'e'},                  //
		{'e', 0x301, 'e', 0x301},           //
		{0x1100, 0x1161},                   //
		{0xe9},                             // not taken apart
		{'й'},                              //
		{'й', 0x323},                       //
		{0x1a1},                            //
		{0x37e},                            //
		{0x387},                            //
		{0x374},                            //
		{0xac00},                           //
		{0x622},                            //
		{'ヴ'},                              //
		{'e', 0x344},                       //
		{'e', 0x340},                       //
		{'e', 0x301, 0x323},                // marks in another order
		{'o', 0x323, 0x31b},                //
		{'и', 0x306, 0x323},                //
		{0x138},                            // no code
		{0x4e8d, 0x301},                    //
		{0x1100},                           //
		{0xff},                             //
		{0x5d0, 0x301, 'x'},                //
		{0, 0x301},                         //
		{'\n'},                             //
		{0x7f},                             //
		{0xa0},                             //
		{0x10ffff, 0x301},                  //
		{0x2126},                           //
		{'e', 0x301, 0xd800},               //
		{'e', 0x301, math.MinInt32, 0x301}, //
	} {
		waysLike(t, c)
	}
}

func TestNoWaysOfNoScalars(t *testing.T) {
	for _, n := range noScalars {
		waysLike(t, []rune{n})
		waysLike(t, []rune{n, 0x301})
		waysLike(t, []rune{'e', n})
	}
	for _, r := range []rune{'e', 'и', ' '} { // a code's number with more bits
		for _, more := range []rune{0x10000, 0x1000000, math.MinInt32} {
			waysLike(t, []rune{r | more})
		}
	}
}

func TestEveryCharacterWithACodeThatIsSplit(t *testing.T) {
	split := map[rune]bool{}
	for _, l := range allCoded() {
		base, mark, whole := l[0], l[1], l[2]
		split[whole] = true
		c, own := []rune{base}, way(base)
		if mark != 0 {
			c, own = []rune{base, mark}, way(base, mark)
		}
		want := []cluster.Way{own, way(whole)}
		if whole < base {
			slices.Reverse(want)
		}
		waysLike(t, c, want...)
		waysLike(t, []rune{whole})
	}
	for _, x := range glyph.Known() {
		if split[x] == nfd.Is([]rune{x}) {
			t.Errorf("the list of those that are split is wrong at %x", x)
		}
	}
}

// Each character with a code is a way of itself, and no mark is one.
func TestEveryCharacterWithACode(t *testing.T) {
	n := 0
	for _, x := range glyph.Known() {
		c := nfd.NFD([]rune{x})
		list := cluster.Ways(c)
		if class.Mark(x) {
			if len(list) != 0 {
				t.Errorf("Ways of mark %x: %x", x, list)
			}
			continue
		}
		if !slices.ContainsFunc(list, func(w cluster.Way) bool { return sameWay(w, way(x)) }) {
			t.Errorf("Ways(%x): %x, without %x", c, list, x)
		}
		n += len(list)
	}
	// 840 are no marks. Of the 75 that are split 72 are a pair, which has its
	// letter as another way; the other three, and the three that they are, are
	// ways of each other.
	if n != 840+72+3+3 {
		t.Errorf("%d ways in all", n)
	}
}

// Those that have no code are no way, whatever they are split into.
func TestNothingWithoutACode(t *testing.T) {
	known := glyph.Known()
	for _, x := range pairs.All() {
		if slices.Contains(known, x) {
			continue
		}
		for _, w := range cluster.Ways(nfd.NFD([]rune{x})) {
			if !slices.Contains(known, w.Base) || class.Mark(w.Base) {
				t.Errorf("of %x: way %x", x, w)
			}
		}
	}
}

// The second way goes from ways to clusters: each character, with any marks in
// order behind it, is a way of what both are when they are taken apart.

var someMarks = []rune{0x3099, 0x31b, 0x323, 0x301, 0x306, 0x308, 0x654}

// told answers the ways of all clusters of up to three of someMarks.
func told() map[string][]cluster.Way {
	list := map[string][]cluster.Way{}
	for _, x := range lone {
		list[string(x)] = []cluster.Way{way(x)}
	}
	for _, x := range glyph.Known() {
		if class.Mark(x) {
			continue
		}
		eachText(someMarks, 3, func(rest []rune) {
			if slices.IsSortedFunc(rest, func(a, b rune) int { return class.Of(a) - class.Of(b) }) {
				key := string(nfd.NFD(append([]rune{x}, rest...)))
				list[key] = append(list[key], way(x, rest...))
			}
		})
	}
	return list
}

func TestWaysAsTold(t *testing.T) {
	list := told()
	check := func(c []rune) { waysLike(t, c, list[string(c)]...) }
	for _, starter := range []rune("иоo;·ʹіakбе一Ł£ĸеѵかはウ\u0627\u0648\u064a\u05d0 \u0098\u200d\u3000\u0138\ufffd") {
		eachText(someMarks, 2, func(marks []rune) { check(append([]rune{starter}, marks...)) })
	}
	for _, starter := range []rune("иo\u0627") {
		eachText(someMarks, 3, func(marks []rune) { check(append([]rune{starter}, marks...)) })
	}
}

func TestWaysOfAllShortTexts(t *testing.T) {
	list := told()
	characters := append([]rune("иoй\u01a1\u1ec7; "), someMarks[1:4]...)
	eachText(characters, 4, func(r []rune) { waysLike(t, r, list[string(r)]...) })
}

// Ways knows no limit of marks.
func TestWaysOfManyMarks(t *testing.T) {
	c := []rune{'и'}
	for range 3000 {
		c = append(c, 0x306)
	}
	waysLike(t, c, way('и', c[1:]...), way('й', c[2:]...))
	waysLike(t, c[:8], way('и', c[1:8]...), way('й', c[2:8]...))
	const many = 50000
	a, b := slices.Repeat([]rune{0x306}, many), slices.Repeat([]rune{0x301}, many)
	c = slices.Concat([]rune{'и'}, a, b)
	waysLike(t, c, way('и', c[1:]...), way('й', c[2:]...))
	c = slices.Concat([]rune{'и'}, b, a)
	waysLike(t, c, way('и', c[1:]...))
}

// P16.2.

func TestOrdersByHand(t *testing.T) {
	ordersLike(t, nil, nil) // one order, of nothing
	ordersLike(t, []rune{}, nil)
	ordersLike(t, []rune{0x301}, []rune{0x301})
	ordersLike(t, []rune{0x301, 0x300}, []rune{0x301, 0x300})
	ordersLike(t, []rune{0x300, 0x301}, []rune{0x300, 0x301})
	ordersLike(t, []rune{0x301, 0x301}, []rune{0x301, 0x301})
	ordersLike(t, []rune{0x323, 0x301}, []rune{0x301, 0x323}, []rune{0x323, 0x301})
	ordersLike(t, []rune{0x301, 0x323}, []rune{0x301, 0x323}, []rune{0x323, 0x301})
	ordersLike(t, []rune{0x323, 0x301, 0x300},
		[]rune{0x301, 0x300, 0x323}, []rune{0x301, 0x323, 0x300}, []rune{0x323, 0x301, 0x300})
	ordersLike(t, []rune{0x323, 0x301, 0x323},
		[]rune{0x301, 0x323, 0x323}, []rune{0x323, 0x301, 0x323}, []rune{0x323, 0x323, 0x301})
	ordersLike(t, []rune{0x345, 0x301, 0x323},
		[]rune{0x301, 0x323, 0x345}, []rune{0x301, 0x345, 0x323}, []rune{0x323, 0x301, 0x345},
		[]rune{0x323, 0x345, 0x301}, []rune{0x345, 0x301, 0x323}, []rune{0x345, 0x323, 0x301})
	ordersLike(t, []rune{0xfb1e, 0x5c1}, []rune{0x5c1, 0xfb1e}, []rune{0xfb1e, 0x5c1})
	ordersLike(t, []rune{0xfe20, 0x301}, []rune{0xfe20, 0x301}) // one class, whatever the numbers are
}

func TestNoOrders(t *testing.T) {
	six := []rune{0x301, 0x323, 0x345, 0x3099, 0x31b, 0x327}
	if n := len(cluster.Orders(six)); n != 720 {
		t.Errorf("%d orders of six marks", n)
	}
	ordersLike(t, append(slices.Clone(six), 0x334))
	ordersLike(t, append(slices.Clone(six), six...))
	ordersLike(t, slices.Repeat([]rune{0x301}, 6), slices.Repeat([]rune{0x301}, 6))
	ordersLike(t, slices.Repeat([]rune{0x301}, 7))
	for _, other := range append([]rune{'a', ' ', 0, 0x34f, 0xe9, 0x301 - 0x10000, 0x301 + 0x10000}, noScalars...) {
		ordersLike(t, []rune{other})
		for at := range six {
			wrong := slices.Clone(six)
			wrong[at] = other
			ordersLike(t, wrong)
		}
	}
}

// permutations answers all orders of list, of ones that are the same each time
// anew.
func permutations(list []rune) [][]rune {
	if len(list) == 0 {
		return [][]rune{nil}
	}
	var all [][]rune
	last := list[len(list)-1]
	for _, p := range permutations(list[:len(list)-1]) {
		for at := 0; at <= len(p); at++ {
			all = append(all, slices.Insert(slices.Clone(p), at, last))
		}
	}
	return all
}

// ofClass answers those of a class, as they stand.
func ofClass(list []rune, number int) []rune {
	return slices.DeleteFunc(slices.Clone(list), func(r rune) bool { return class.Of(r) != number })
}

// toldOrders picks the orders among all permutations.
func toldOrders(rest []rune) [][]rune {
	var all [][]rune
	for _, p := range permutations(rest) {
		stays := func(m rune) bool {
			return slices.Equal(ofClass(p, class.Of(m)), ofClass(rest, class.Of(m)))
		}
		if !slices.ContainsFunc(rest, func(m rune) bool { return !stays(m) }) {
			all = append(all, p)
		}
	}
	slices.SortFunc(all, slices.Compare[[]rune])
	return slices.CompactFunc(all, slices.Equal[[]rune])
}

func TestOrdersOfAllShortLists(t *testing.T) {
	eachText([]rune{0x300, 0x301, 0x316, 0x323, 0x345, 0x3099}, 4, func(rest []rune) {
		ordersLike(t, rest, toldOrders(rest)...)
	})
}

func TestOrdersOfLongerLists(t *testing.T) {
	marks := []rune{0x301, 0x323, 0x345}
	eachText(marks, 6, func(rest []rune) {
		if len(rest) > 4 && len(rest) <= 6 && (rest[0] != rest[1] || rest[2] != rest[4]) {
			ordersLike(t, rest, toldOrders(rest)...)
		}
	})
	for _, rest := range [][]rune{
		{0x301, 0x323, 0x345, 0x3099, 0x31b, 0x327},
		{0xfb1e, 0x5c1, 0x5b0, 0x64b, 0x670, 0x653},
		{0xfe23, 0x361, 0x360, 0x321, 0x328, 0x300},
	} {
		ordersLike(t, rest, toldOrders(rest)...)
	}
}

// Each two marks of all have two orders, if they are of two classes.
func TestOrdersOfEveryTwoMarks(t *testing.T) {
	for _, a := range class.All() {
		for _, b := range class.All() {
			want := [][]rune{{a, b}}
			if class.Of(a) != class.Of(b) {
				want = [][]rune{{min(a, b), max(a, b)}, {max(a, b), min(a, b)}}
			}
			ordersLike(t, []rune{a, b}, want...)
		}
	}
}

// The rules that hold everywhere.

// inRoom answers list with spare room behind it, and the whole.
func inRoom(list []rune) (part, whole []rune) {
	whole = append(slices.Clone(list), 0x323, 0x301, 'x', 0x306)
	return whole[:len(list)], whole
}

func TestWhatIsHandedInStays(t *testing.T) {
	for _, list := range [][]rune{nil, {'e'}, {0x1ec7, 'a', 0x301, 0x323}, {'и', 0x323, 0x306}, {'и', 0x306, 0x323},
		{'o', 0x31b, 0x323, 0x301}, {' '}, {0x345, 0x323, 0x301, 0x300}, {0x301}} {
		part, whole := inRoom(list)
		before := slices.Clone(whole)
		clustersLike(t, part, toldClusters(list)...)
		ways, orders := cluster.Ways(part), cluster.Orders(part)
		if !slices.Equal(whole, before) {
			t.Errorf("%x became %x", before, whole)
		}
		if !slices.EqualFunc(ways, cluster.Ways(list), sameWay) || !sameLists(orders, cluster.Orders(list)) {
			t.Errorf("spare room is read behind %x", list)
		}
	}
}

// spoil fills a list, its spare room included.
func spoil(list []rune) {
	list = list[:cap(list)]
	for i := range list {
		list[i] = 0x77
	}
}

// sharing tells whether a list of lists changes when the one at i is spoilt.
func sharing(lists [][]rune, i int) bool {
	var before [][]rune
	for _, l := range lists {
		before = append(before, slices.Clone(l))
	}
	spoil(lists[i])
	return !sameLists(slices.Delete(lists, i, i+1), slices.Delete(before, i, i+1))
}

// rests answers the lists of ways.
func rests(ways []cluster.Way) [][]rune {
	var list [][]rune
	for _, w := range ways {
		list = append(list, w.Rest)
	}
	return list
}

// Who spoils one answer, or a list of it, or what was handed in, spoils no
// other list, neither of an answer that was given already nor of one that comes
// after.
func TestNewMemory(t *testing.T) {
	for name, call := range map[string]func() (r []rune, lists [][]rune){
		"Clusters": func() ([]rune, [][]rune) {
			r := []rune{'e', 0x323, 0x301, 'o', 0x31b, ' ', 'a', 0x301}
			return r, cluster.Clusters(r)
		},
		"Ways": func() ([]rune, [][]rune) {
			r := []rune{0x627, 0x655, 0x654, 0x654}
			return r, rests(cluster.Ways(r))
		},
		"Orders": func() ([]rune, [][]rune) {
			r := []rune{0x323, 0x301, 0x345, 0x3099}
			return r, cluster.Orders(r)
		},
		"Orders of one": func() ([]rune, [][]rune) {
			r := []rune{0x323}
			return r, cluster.Orders(r)
		},
	} {
		_, before := call()
		_, stays := call()
		for i := range before {
			r, lists := call()
			if spoil(r); !sameLists(lists, before) || sharing(lists, i) {
				t.Errorf("%s: lists share memory", name)
			}
		}
		if _, after := call(); !sameLists(after, before) || !sameLists(stays, before) {
			t.Errorf("%s: answers share memory", name)
		}
	}
}

// The lists of lists are new, too.
func TestNewLists(t *testing.T) {
	r := []rune{0x323, 0x301}
	clear(cluster.Clusters(r))
	clear(cluster.Orders(r))
	clear(cluster.Orders(nil))
	clear(cluster.Ways([]rune{' '}))
	clear(cluster.Ways([]rune{'и', 0x306}))
	clustersLike(t, r, r)
	ordersLike(t, r, []rune{0x301, 0x323}, r)
	ordersLike(t, nil, nil)
	waysLike(t, []rune{' '}, way(' '))
	waysLike(t, []rune{'и', 0x306}, way('и', 0x306), way('й'))
}

func TestNothingIsKept(t *testing.T) {
	for range 3 {
		waysLike(t, []rune{'o', 0x31b}, way('o', 0x31b), way(0x1a1))
		waysLike(t, []rune{'o'}, way('o'))
		waysLike(t, []rune{0x1a1})
		ordersLike(t, []rune{0x345, 0x301}, []rune{0x301, 0x345}, []rune{0x345, 0x301})
		ordersLike(t, []rune{0x345}, []rune{0x345})
		clustersLike(t, []rune{0x301, 'a'}, []rune{0x301}, []rune{'a'})
		clustersLike(t, []rune{'a'}, []rune{'a'})
	}
}
