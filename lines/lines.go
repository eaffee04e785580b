// Package lines reads the lists of sets of characters whose codes are one
// byte. Layers that have such lists share it.
package lines

import (
	"strconv"
	"strings"
	"unicode/utf8"
)

// Text is lines as a chapter has them, so that both can be held against each
// other: a number, and a word for it and for each number behind it.
type Text string

// none is the word for a number that has no character.
const none = "-"

// Numbers goes through the lines, and tells each number that has a character,
// and the character.
func (t Text) Numbers(yield func(int, rune) bool) {
	for _, line := range strings.Split(string(t), "\n") {
		words := strings.Fields(line)
		if len(words) == 0 {
			continue
		}
		start := int(hexadecimal(words[0]))
		for i, word := range words[1:] {
			if word != none && !yield(start+i, character(word)) {
				return
			}
		}
	}
}

// character answers what a word tells: the one character that it is, or else
// one by its number.
func character(word string) rune {
	if r, size := utf8.DecodeRuneInString(word); size == len(word) {
		return r
	}
	return hexadecimal(word)
}

// hexadecimal reads digits of lines, which are never wrong ones.
func hexadecimal(word string) rune {
	n, _ := strconv.ParseInt(word, 16, 32)
	return rune(n)
}
