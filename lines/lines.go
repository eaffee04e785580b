// Package lines reads the lists of sets of characters whose codes are one
// byte. Layers that have such lists share it.
package lines

import (
	"strconv"
	"strings"
	"unicode/utf8"
)

// Text is lines as a chapter has them, so that both can be held against each
// other: a number, and a word for it and for each number behind it, each one
// blank from the other.
type Text string

// none is the word for a number that has no character.
const none = "-"

// Line answers the one line that has a word for n. All numbers of all sets are
// asked for one by one where characters are sought, and most lines are not
// worth going through then.
func (t Text) Line(n int) Text {
	for line := range strings.SplitSeq(string(t), "\n") {
		start, words, ok := parts(line)
		if ok && n >= start && n-start <= strings.Count(words, " ") {
			return Text(line)
		}
	}
	return ""
}

// Numbers goes through the lines, and tells each number that has a character,
// and the character.
func (t Text) Numbers(yield func(int, rune) bool) {
	for line := range strings.SplitSeq(string(t), "\n") {
		n, words, _ := parts(line)
		for word := range strings.FieldsSeq(words) {
			if word != none && !yield(n, character(word)) {
				return
			}
			n++
		}
	}
}

// parts answers a line's number, and its words; false of a line without any.
func parts(line string) (int, string, bool) {
	first, words, ok := strings.Cut(strings.TrimSpace(line), " ")
	if !ok {
		return 0, "", false
	}
	return int(hexadecimal(first)), words, true
}

// character answers what a word tells: the one character that it is, or else
// one by its number.
func character(word string) rune {
	if r, size := utf8.DecodeRuneInString(word); size == len(word) {
		return r
	}
	return hexadecimal(word)
}

// hexadecimal reads digits of lines, which are never wrong ones.
func hexadecimal(word string) rune {
	n, _ := strconv.ParseInt(word, 16, 32)
	return rune(n)
}
