// Package utf is layer 1: see shared/doc/01-utf.md.
package utf

import (
	"amanuensis/api"
)

// The numbers between are half of a pair in UTF-16, and no characters.
const (
	firstSurrogate = 0xd800
	lastSurrogate  = 0xdfff
)

// Each byte behind a first one carries six bits below its upper bits 10.
const (
	laterBits = 6
	laterMask = 1<<laterBits - 1
	laterHead = 0b10
)

// Decode answers the scalars whose bytes b is.
func Decode(b []byte) ([]rune, api.Fault) {
	var list []rune
	for at := 0; at < len(b); {
		r, n := first(b[at:])
		if n == 0 {
			return nil, api.Fault{E: api.ErrUTF, At: at}
		}
		list = append(list, r)
		at += n
	}
	return list, api.Fault{}
}

// Encode answers the bytes of the scalars r.
func Encode(r []rune) ([]byte, api.Fault) {
	var b []byte
	for at, c := range r {
		if !Scalar(c) {
			return nil, api.Fault{E: api.ErrUTF, At: at}
		}
		b = add(b, c)
	}
	return b, api.Fault{}
}

// Scalar tells whether r is a number that UTF-8 can write.
func Scalar(r rune) bool {
	if r < 0 || r > api.MaxScalar {
		return false
	}
	return r < firstSurrogate || r > lastSurrogate
}

// Len answers how many bytes r has, 0 if it is no scalar.
func Len(r rune) int {
	switch {
	case !Scalar(r):
		return 0
	case r < 0x80:
		return 1
	case r < 0x800:
		return 2
	case r < 0x10000:
		return 3
	}
	return 4
}

// first answers the scalar that begins b, which is not empty, and how many
// bytes it has; 0 bytes if none begins there.
func first(b []byte) (rune, int) {
	n := announced(b[0])
	if n == 0 || n > len(b) {
		return 0, 0
	}
	r := rune(b[0] &^ head(n))
	for _, c := range b[1:n] {
		if c>>laterBits != laterHead {
			return 0, 0
		}
		r = r<<laterBits | rune(c&laterMask)
	}
	// Its own length is another one just if it is no scalar, or has more
	// bytes than it needs.
	if Len(r) != n {
		return 0, 0
	}
	return r, n
}

// announced answers how many bytes a scalar has that begins with c, by c's
// upper bits; 0 if none begins so.
func announced(c byte) int {
	switch {
	case c>>7 == 0:
		return 1
	case c>>5 == 0b110:
		return 2
	case c>>4 == 0b1110:
		return 3
	case c>>3 == 0b11110:
		return 4
	}
	return 0
}

// head answers the upper bits of the first of n bytes.
func head(n int) byte {
	switch n {
	case 2:
		return 0b1100_0000
	case 3:
		return 0b1110_0000
	case 4:
		return 0b1111_0000
	}
	return 0
}

// add puts the bytes of r, which is a scalar, behind b.
func add(b []byte, r rune) []byte {
	n := Len(r)
	shift := (n - 1) * laterBits
	b = append(b, head(n)|byte(r>>shift))
	for shift > 0 {
		shift -= laterBits
		b = append(b, laterHead<<laterBits|byte(r>>shift)&laterMask)
	}
	return b
}
