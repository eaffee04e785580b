// Package lines reads the lists of sets of characters whose codes are one
// byte. Layers that have such lists share it.
package lines

import (
	"strconv"
	"strings"
	"unicode/utf8"
)

// Text is lines as a chapter has them: a number, and a word for it and for each
// number behind it. But here each line is whole, sixteen words from 20
// (hexadecimal) on, and blanks ahead of the words make all of one width: so a
// number's word is found without a look at the others, or at what is ahead of the
// line. All numbers of all sets are asked for one by one where characters are
// sought.
type Text string

// Tail is what lines tell from a number on.
type Tail struct {
	text Text
	n    int
}

const (
	first     = 0x20 // the number of the first line
	perLine   = 16
	wordWidth = len(" 0300")
	headWidth = len("20")
	lineWidth = len("\n") + headWidth + perLine*wordWidth
)

// none is the word for a number that has no character.
const none = "-"

// From answers what the lines tell from n on: nothing, if they have no word
// for n.
func (t Text) From(n int) Tail {
	return Tail{text: t, n: n}
}

// Numbers goes through the lines, and tells each number and its character, 0 if
// it has none.
func (t Tail) Numbers(yield func(int, rune) bool) {
	for n := t.n; t.text.has(n); n++ {
		if !yield(n, character(t.text.word(n))) {
			return
		}
	}
}

// has tells whether there is a word for n.
func (t Text) has(n int) bool {
	return n >= first && n-first < len(t)/lineWidth*perLine
}

// word answers the word for n, which there is.
func (t Text) word(n int) string {
	line, i := (n-first)/perLine, (n-first)%perLine
	start := line*lineWidth + len("\n") + headWidth + i*wordWidth
	return strings.TrimLeft(string(t[start:start+wordWidth]), " ")
}

// character answers what a word tells: the one character that it is, or else
// one by its number.
func character(word string) rune {
	if word == none {
		return 0
	}
	if r, size := utf8.DecodeRuneInString(word); size == len(word) {
		return r
	}
	n, _ := strconv.ParseInt(word, 16, 32) // digits of lines are never wrong ones
	return rune(n)
}
