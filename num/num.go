// Package num lays numbers as bytes and reckons with numbers of 128 bits: layer 1, shared/doc/01-num.md.
package num

import "quaestor/api"

// widest is how many bytes the widest form has; longest is the most that a short form has.
const (
	widest  = 8
	longest = 10
)

// Put answers b and behind it the form of that width of n; b alone, if the width is none.
func Put(b []byte, n uint64, width int) []byte {
	if !isWidth(width) {
		width = 0
	}
	to := copied(b, width)
	for i := range width {
		to = append(to, byte(n>>(8*i)))
	}
	return to
}

// Get answers the number whose form of that width b begins with.
func Get(b []byte, width int) (uint64, api.Errno) {
	if !isWidth(width) {
		return 0, api.ErrArg
	}
	if len(b) < width {
		return 0, api.ErrShort
	}
	var n uint64
	for i := range width {
		n |= uint64(b[i]) << (8 * i)
	}
	return n, api.OK
}

// PutShort answers b and behind it the short form of n.
func PutShort(b []byte, n uint64) []byte {
	to := copied(b, longest)
	for n >= 0x80 {
		to = append(to, byte(n)|0x80)
		n >>= 7
	}
	return append(to, byte(n))
}

// GetShort answers the number whose short form b begins with, and how many bytes that form has.
func GetShort(b []byte) (n uint64, used int, e api.Errno) {
	for i := range longest {
		if i == len(b) {
			return 0, 0, api.ErrShort
		}
		c := b[i]
		// Nine bytes tell 63 bits: a tenth has room for one bit, and for nothing behind it.
		if i == longest-1 && c > 1 || i > 0 && c == 0 {
			return 0, 0, api.ErrForm
		}
		n |= uint64(c&0x7f) << (7 * i)
		if c < 0x80 {
			return n, i + 1, api.OK
		}
	}
	return 0, 0, api.ErrForm
}

// Zig answers the zigzag of n.
func Zig(n int64) uint64 {
	return uint64(n)<<1 ^ uint64(n>>63)
}

// Zag answers the number whose zigzag n is.
func Zag(n uint64) int64 {
	return int64(n>>1) ^ -int64(n&1)
}

// Floor answers the greatest whole number that isn't above a through b.
func Floor(a, b int64) (int64, api.Errno) {
	if b == 0 {
		return 0, api.ErrArg
	}
	q := a / b
	if b == -1 && a < 0 && q < 0 {
		return 0, api.ErrOver // only the least number is its own opposite
	}
	if a%b != 0 && (a < 0) != (b < 0) {
		q-- // the machine's quotient goes towards 0, which is upwards here
	}
	return q, api.OK
}

func isWidth(width int) bool {
	return width >= 1 && width <= widest
}

// copied answers b in new memory that has room for so many bytes more.
func copied(b []byte, more int) []byte {
	return append(make([]byte, 0, len(b)+more), b...)
}
