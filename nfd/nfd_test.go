package nfd_test

import (
	"math"
	"slices"
	"testing"

	"amanuensis/class"
	"amanuensis/hangul"
	"amanuensis/nfd"
	"amanuensis/pairs"
)

// splitOnce answers r with each character split, but not what comes of that,
// and whether anything was split.
func splitOnce(r []rune) (list []rune, any bool) {
	for _, c := range r {
		a, b, n := pairs.Split(c)
		parts := append([]rune{a, b}[:n], hangul.Split(c)...)
		if len(parts) == 0 {
			list = append(list, c)
		} else {
			list = append(list, parts...)
			any = true
		}
	}
	return list, any
}

// toldOrder answers r with neighbours swapped as long as two of them are marks
// of which the first one has the greater class.
func toldOrder(r []rune) []rune {
	list := slices.Clone(r)
	for swapped := true; swapped; {
		swapped = false
		for i := 1; i < len(list); i++ {
			a, b := class.Of(list[i-1]), class.Of(list[i])
			if a > b && b > 0 {
				list[i-1], list[i] = list[i], list[i-1]
				swapped = true
			}
		}
	}
	return list
}

// toldNFD splits all again and again till nothing is split any more.
func toldNFD(r []rune) []rune {
	list, any := splitOnce(r)
	for any {
		list, any = splitOnce(list)
	}
	return toldOrder(list)
}

// nfdLike holds NFD and Is against the text that is wanted. The first fault
// ends the test: there may be millions.
func nfdLike(t *testing.T, r, want []rune) {
	t.Helper()
	if got := nfd.NFD(r); !slices.Equal(got, want) {
		t.Fatalf("%x: NFD %x, not %x", r, got, want)
	}
	if is := nfd.Is(r); is != slices.Equal(r, want) {
		t.Fatalf("%x: Is %v", r, is)
	}
}

func orderLike(t *testing.T, r, want []rune) {
	t.Helper()
	if got := nfd.Order(r); !slices.Equal(got, want) {
		t.Fatalf("%x: Order %x, not %x", r, got, want)
	}
}

// eachText tells do all texts of up to length of these characters; a text is
// good till do answers.
func eachText(characters []rune, length int, do func([]rune)) {
	var grow func(text []rune)
	grow = func(text []rune) {
		do(text)
		if len(text) == length {
			return
		}
		for _, c := range characters {
			grow(append(text, c))
		}
	}
	grow(make([]rune, 0, length))
}

// ends are numbers at the ends of their type, and of what may be a character.
var ends = []rune{
	math.MinInt32, math.MinInt32 + 0xe9, -0x110000, -0xe9, -0x301, -1,
	0, 1, 0xd800, 0xdfff, 0xffff, 0x10ffff, 0x110000, 0x100e9, 0x10301, math.MaxInt32,
}

// mixed are starters, marks of several classes, two of some of these, and all
// kinds of what is split: with parts that are split again, marks that are
// another one or two, syllables.
var mixed = []rune{
	'a', 0x4e00, 0x301, 0x300, 0x323, 0x327, 0x334, 0x345, 0x3099,
	0xe9, 0x1ec7, 0x1fb7, 0x212b, 0x340, 0x344, 0x37e, 0xfb2e, 0x304c, 0xac00, 0xd7a3,
}

// Tests of P6.1: Order.

func TestOrderByHand(t *testing.T) {
	for _, c := range []struct{ r, want []rune }{
		{[]rune{'a', 0x301, 0x323}, []rune{'a', 0x323, 0x301}},
		{[]rune{'a', 0x323, 0x301}, []rune{'a', 0x323, 0x301}},
		// of one class: as they stand
		{[]rune{'a', 0x301, 0x300}, []rune{'a', 0x301, 0x300}},
		{[]rune{'a', 0x300, 0x301}, []rune{'a', 0x300, 0x301}},
		{[]rune{'a', 0x301, 0x323, 0x300, 0x316}, []rune{'a', 0x323, 0x316, 0x301, 0x300}},
		// falling classes: all of them turn round
		{[]rune{'a', 0x345, 0x360, 0x35c, 0x315, 0x301, 0x323, 0x31b, 0x327, 0x334},
			[]rune{'a', 0x334, 0x327, 0x31b, 0x323, 0x301, 0x315, 0x35c, 0x360, 0x345}},
		{[]rune{0x5d0, 0xfb1e, 0x5c2, 0x5c1, 0x5bf, 0x5bd, 0x5bc, 0x5bb, 0x5ba, 0x5b9, 0x5b8, 0x5b0},
			[]rune{0x5d0, 0x5b0, 0x5b8, 0x5ba, 0x5b9, 0x5bb, 0x5bc, 0x5bd, 0x5bf, 0x5c1, 0x5c2, 0xfb1e}},
		{[]rune{0x628, 0x653, 0x655, 0x670, 0x652, 0x651, 0x64b}, []rune{0x628, 0x64b, 0x651, 0x652, 0x670, 0x655, 0x653}},
		{[]rune{0x304b, 0x301, 0x3099, 0x334}, []rune{0x304b, 0x334, 0x3099, 0x301}},
		// over no starter, whether it is a letter or not
		{[]rune{'a', 0x301, 'b', 0x323}, []rune{'a', 0x301, 'b', 0x323}},
		{[]rune{'a', 0x301, 0, 0x323}, []rune{'a', 0x301, 0, 0x323}},
		{[]rune{'a', 0x301, 0x34f, 0x323}, []rune{'a', 0x301, 0x34f, 0x323}},
		{[]rune{'a', 0x301, 0x358, 0x323}, []rune{'a', 0x301, 0x358, 0x323}}, // a mark of Unicode's, not of the chapter's
		{[]rune{'b', 'a'}, []rune{'b', 'a'}},
		// each run by itself, at the beginning and at the end, too
		{[]rune{0x301, 0x323}, []rune{0x323, 0x301}},
		{[]rune{0x301, 0x323, 'a', 'b', 0x302, 0x324, 'c', 0x303, 0x325}, []rune{0x323, 0x301, 'a', 'b', 0x324, 0x302, 'c', 0x325, 0x303}},
		// nothing is split
		{[]rune{0xe9, 0x323}, []rune{0xe9, 0x323}},
		{[]rune{0x212b, 0x344, 0x323, 0xac01}, []rune{0x212b, 0x323, 0x344, 0xac01}},
		{[]rune{'a', 0x340, 0x341, 0x343, 0x327}, []rune{'a', 0x327, 0x340, 0x341, 0x343}},
		{[]rune{0x301}, []rune{0x301}},
		{[]rune{'a'}, []rune{'a'}},
		{[]rune{}, nil},
		{nil, nil},
	} {
		orderLike(t, c.r, c.want)
	}
}

func TestOrderOfEveryTwoMarks(t *testing.T) {
	marks := class.All()
	for _, a := range marks {
		for _, b := range marks {
			first, second := a, b
			if class.Of(b) < class.Of(a) {
				first, second = b, a
			}
			orderLike(t, []rune{'x', a, b, 'y'}, []rune{'x', first, second, 'y'})
			orderLike(t, []rune{'x', a, 'y', b}, []rune{'x', a, 'y', b})
			orderLike(t, []rune{a, b}, []rune{first, second})
		}
	}
}

func TestOrderOfAllShortTexts(t *testing.T) {
	eachText([]rune{'a', 0xe9, 0x301, 0x300, 0x344, 0x323, 0x324, 0x334}, 5, func(r []rune) {
		orderLike(t, r, toldOrder(r))
	})
}

// Marks in so great numbers that a sort takes other ways than with few: those
// of one class still stay in their order.
func TestOrderOfManyMarks(t *testing.T) {
	marks := class.All()
	for _, step := range []int{1, 2, 5, 7, 11, 31, 64, 101} {
		var r, want []rune
		for i := range 3000 {
			r = append(r, marks[(i*step+i/len(marks))%len(marks)])
		}
		for c := 1; c <= 255; c++ {
			for _, m := range r {
				if class.Of(m) == c {
					want = append(want, m)
				}
			}
		}
		orderLike(t, r, want)
		orderLike(t, slices.Concat(r, []rune{'a'}, r), slices.Concat(want, []rune{'a'}, want))
		if got := nfd.Order(want); !slices.Equal(got, want) {
			t.Fatal("sorted ones are moved")
		}
	}
}

// Every number between two marks that would be swapped, and ahead of and
// behind them.
func TestOrderAtEveryNumber(t *testing.T) {
	check := func(c rune) {
		r := []rune{c, 0x301, c, 0x323, c}
		orderLike(t, r, toldOrder(r))
	}
	for c := rune(-0x1000); c < 0x112000; c++ {
		check(c)
	}
	for _, c := range ends {
		check(c)
	}
}

// Tests of P6.1: NFD and Is.

func TestNFDByHand(t *testing.T) {
	for _, c := range []struct{ r, want []rune }{
		{[]rune{0xe9}, []rune{'e', 0x301}},
		{[]rune{0x1ec7}, []rune{'e', 0x323, 0x302}},   // by 1EB9
		{[]rune{0x1fb7}, []rune{0x3b1, 0x342, 0x345}}, // by 1FB6
		{[]rune{0x1fb4}, []rune{0x3b1, 0x301, 0x345}}, // by 03AC
		{[]rune{0x390}, []rune{0x3b9, 0x308, 0x301}},  // by 03CA
		{[]rune{0x1d8}, []rune{'u', 0x308, 0x301}},    // by 00FC
		{[]rune{0x22c}, []rune{'O', 0x303, 0x304}},    // by 00D5
		{[]rune{0x1ee3}, []rune{'o', 0x31b, 0x323}},   // by 01A1
		{[]rune{0x1edb}, []rune{'o', 0x31b, 0x301}},   // by 01A1
		{[]rune{0x1fd}, []rune{0xe6, 0x301}},          // no further: æ is none
		{[]rune{0x212b}, []rune{'A', 0x30a}},          // by 00C5
		{[]rune{0x212a}, []rune{'K'}},                 // another one
		{[]rune{0x2126}, []rune{0x3a9}},               // another one
		{[]rune{0x374, 0x37e, 0x387}, []rune{0x2b9, ';', 0xb7}},
		{[]rune{0x340, 0x341, 0x343, 0x344}, []rune{0x300, 0x301, 0x313, 0x308, 0x301}},
		{[]rune{0xfb2e, 0xfb2f}, []rune{0x5d0, 0x5b7, 0x5d0, 0x5b8}},
		{[]rune{0x622, 0x626}, []rune{0x627, 0x653, 0x64a, 0x654}},
		{[]rune{0x304c, 0x30f4, 0x3071}, []rune{0x304b, 0x3099, 0x30a6, 0x3099, 0x306f, 0x309a}},
		{[]rune{0xac00}, []rune{0x1100, 0x1161}},
		{[]rune{0xac01}, []rune{0x1100, 0x1161, 0x11a8}},
		{[]rune{0xd7a3, 0xd7a4}, []rune{0x1112, 0x1175, 0x11c2, 0xd7a4}},
		// the marks that come of splitting go in order with those that stand behind
		{[]rune{0xe9, 0x323}, []rune{'e', 0x323, 0x301}},
		{[]rune{0xe9, 0x300}, []rune{'e', 0x301, 0x300}},
		{[]rune{0x1ec7, 0x334, 0x302, 0x323}, []rune{'e', 0x334, 0x323, 0x323, 0x302, 0x302}},
		{[]rune{0x1fb7, 0x301, 0x327}, []rune{0x3b1, 0x327, 0x342, 0x301, 0x345}},
		{[]rune{'a', 0x344, 0x323}, []rune{'a', 0x323, 0x308, 0x301}},
		{[]rune{'a', 0x345, 0x344}, []rune{'a', 0x308, 0x301, 0x345}},
		{[]rune{'a', 0x340, 0x327, 0x341}, []rune{'a', 0x327, 0x300, 0x301}},
		{[]rune{0x304c, 0x334}, []rune{0x304b, 0x334, 0x3099}},
		{[]rune{0xac01, 0x301, 0x323}, []rune{0x1100, 0x1161, 0x11a8, 0x323, 0x301}},
		{[]rune{0xe9, 0xe9, 0x323, 'x', 0x301, 0x316}, []rune{'e', 0x301, 'e', 0x323, 0x301, 'x', 0x316, 0x301}},
		{[]rune{'a', 0x301, 0x323}, []rune{'a', 0x323, 0x301}},
		// what is apart stays
		{[]rune{'a', 0x323, 0x301}, []rune{'a', 0x323, 0x301}},
		{[]rune{0x1100, 0x1161, 0x11a8}, []rune{0x1100, 0x1161, 0x11a8}},
		{[]rune("A plain text; 123"), []rune("A plain text; 123")},
		{[]rune{0xe6, 0xf8, 0x142, 0x131, 0x44f, 0x4e00, 0x1f600}, []rune{0xe6, 0xf8, 0x142, 0x131, 0x44f, 0x4e00, 0x1f600}},
		{[]rune{0x301}, []rune{0x301}},
		{[]rune{}, nil},
		{nil, nil},
	} {
		nfdLike(t, c.r, c.want)
		if !nfd.Is(c.want) {
			t.Errorf("%x: not apart", c.want)
		}
	}
}

// Unicode splits these, the chapters do not.
func TestWhatIsNotListedStays(t *testing.T) {
	for _, c := range []rune{
		0x123, 0x1e08, 0x1e2f, 0x1e9b, 0x1ed, 0x200, 0x219, 0x226e, 0x385, 0x1fba, 0x1f02, 0x6c2, 0x929,
		0x309e, 0x3094, 0xfb1d, 0xfb30, 0x1f71, 0x1fef, 0x2000, 0xf900, 0x1d15e, 0xfb01, 0xff21,
	} {
		nfdLike(t, []rune{c}, []rune{c})
		nfdLike(t, []rune{c, 0x301, 0x323}, []rune{c, 0x323, 0x301})
	}
}

func TestEveryNumberIsTakenApart(t *testing.T) {
	for c := rune(-0x1000); c < 0x112000; c++ {
		nfdLike(t, []rune{c}, toldNFD([]rune{c}))
	}
}

// Every number that is split, behind and ahead of marks of several classes.
func TestAllThatIsSplitAmongMarks(t *testing.T) {
	list := pairs.All()
	for c := rune(0xac00); c <= 0xd7a3; c++ {
		list = append(list, c)
	}
	for _, c := range list {
		r := []rune{'x', 0x345, 0x334, c, 0x345, 0x301, 0x323, 0x327, 0x3099, 0x334, c, c}
		nfdLike(t, r, toldNFD(r))
	}
}

func TestNFDOfAllShortTexts(t *testing.T) {
	eachText(mixed, 4, func(r []rune) {
		nfdLike(t, r, toldNFD(r))
	})
}

// What is apart is taken apart no further, and holds nothing that is split.
func TestNFDTwiceIsNFD(t *testing.T) {
	eachText(mixed, 3, func(r []rune) {
		once := nfd.NFD(r)
		nfdLike(t, once, once)
		orderLike(t, once, once)
		if _, any := splitOnce(once); any {
			t.Fatalf("%x: %x", r, once)
		}
	})
}

func TestNFDOfALongText(t *testing.T) {
	var r, want []rune
	for range 5000 {
		r = append(r, 0x1ec7, 0x31b, 0xd7a3, 0x212b, 0x301, 0x323, 'z')
		want = append(want, 'e', 0x31b, 0x323, 0x302, 0x1112, 0x1175, 0x11c2, 'A', 0x323, 0x30a, 0x301, 'z')
	}
	nfdLike(t, r, want)
	nfdLike(t, want, want)
}

func TestIsByHand(t *testing.T) {
	for _, c := range []struct {
		r    []rune
		want bool
	}{
		{nil, true},
		{[]rune{}, true},
		{[]rune{'e', 0x301}, true},
		{[]rune{0xe9}, false},
		{[]rune("plain, but for one: \u00e9"), false},
		{[]rune{0xe9, 'x'}, false},
		{[]rune{'a', 0x323, 0x301}, true},
		{[]rune{'a', 0x301, 0x323}, false}, // nothing to split, but not in order
		{[]rune{'a', 0x301, 0x300}, true},
		{[]rune{'a', 0x301, 'b', 0x323}, true},
		{[]rune{0x212a}, false}, // of as many characters, but another one
		{[]rune{0x340}, false},
		{[]rune{0x344}, false},
		{[]rune{0x308, 0x301}, true},
		{[]rune{0xac00}, false},
		{[]rune{0x1100, 0x1161}, true},
		{[]rune{-1, 0xd800, 0x110000}, true},
	} {
		if is := nfd.Is(c.r); is != c.want {
			t.Errorf("%x: %v", c.r, is)
		}
	}
}

// Tests of the rules that hold everywhere.

func TestNumbersThatAreNoCharacters(t *testing.T) {
	nfdLike(t, ends, ends)
	orderLike(t, ends, ends)
	for _, c := range ends {
		nfdLike(t, []rune{c}, []rune{c})
		nfdLike(t, []rune{c, 0xe9, c, 0x301, 0x323, c}, []rune{c, 'e', 0x301, c, 0x323, 0x301, c})
	}
	for _, low := range append(pairs.All(), 0xac00, 0xd7a3, 0x301) {
		for bit := 16; bit < 32; bit++ {
			c := low | 1<<bit
			nfdLike(t, []rune{'a', 0x301, c, 0x323}, []rune{'a', 0x301, c, 0x323})
		}
	}
}

// some are texts of which all, some, or nothing is changed.
var some = [][]rune{
	{0xe9, 0x323}, {'a', 0x301, 0x323, 'b'}, {'a', 0x323, 0x301}, {'a'}, {0x301}, {0x212a}, {0xac01, 0xac00}, {'a', 'b', 'c'},
}

func TestWhatIsHandedInStays(t *testing.T) {
	for _, text := range some {
		room := append(slices.Clone(text), 0x323, 0x301, 0x316, 0xe9)
		was := slices.Clone(room)
		r := room[:len(text)]
		nfd.NFD(r)
		nfd.Order(r)
		nfd.Is(r)
		if !slices.Equal(room, was) {
			t.Errorf("%x: changed into %x", was, room)
		}
	}
}

func TestAnswersAreNewMemory(t *testing.T) {
	for name, call := range map[string]func([]rune) []rune{"NFD": nfd.NFD, "Order": nfd.Order} {
		for _, text := range some {
			r := slices.Clone(text)
			first, second := call(r), call(r)
			was := slices.Clone(second)
			clear(first[:cap(first)])
			if !slices.Equal(r, text) || !slices.Equal(second, was) {
				t.Errorf("%s of %x: shared with an answer", name, text)
			}
			clear(r)
			if !slices.Equal(second, was) {
				t.Errorf("%s of %x: shared with what was handed in", name, text)
			}
			if again := call(text); !slices.Equal(again, was) {
				t.Errorf("%s of %x: then %x, now %x", name, text, was, again)
			}
		}
		// no room of what is handed in comes out, either
		room := []rune{0xe9, 0x301, 0x323}
		empty := call(room[:0])
		_ = append(empty, 'x', 'y', 'z')
		if len(empty) != 0 || !slices.Equal(room, []rune{0xe9, 0x301, 0x323}) {
			t.Errorf("%s of nothing: %x, with %x", name, empty, room)
		}
	}
}
