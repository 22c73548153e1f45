// Package bits is layer 1: see shared/doc/01-bits.md.
package bits

import (
	"bytes"
	mathbits "math/bits"
	"strings"

	"chirograph/api"
)

// Size is how many bits a label has.
const Size = 256

const digits = "0123456789abcdef"

// Prefix is the first Len bits of labels; the others are 0.
type Prefix struct {
	Len  int
	Bits api.Label
}

// Bit: number i of a label.
func Bit(l api.Label, i int) int {
	if i < 0 || i >= Size {
		return 0
	}
	return int(l[i/8]>>(7-i%8)) & 1
}

// Order: -1, 0, 1, as a label is before, the same as, behind another one.
func Order(a, b api.Label) int {
	// Bit 0 is the highest one of byte 0: bits and bytes are in the same order.
	return bytes.Compare(a[:], b[:])
}

// Common: how many bits two labels have in common from the first one on.
func Common(a, b api.Label) int {
	for i := range a {
		if unlike := a[i] ^ b[i]; unlike != 0 {
			return 8*i + mathbits.LeadingZeros8(unlike)
		}
	}
	return Size
}

// Cut: the prefix of the first n bits of a label.
func Cut(l api.Label, n int) Prefix {
	p := Prefix{Len: min(max(n, 0), Size)}
	whole, rest := p.Len/8, p.Len%8
	copy(p.Bits[:], l[:whole])
	if rest > 0 {
		p.Bits[whole] = l[whole] &^ (0xff >> rest)
	}
	return p
}

// Good: is a prefix in form?
func Good(p Prefix) bool {
	return p == Cut(p.Bits, p.Len)
}

// Has: does a label begin so?
func (p Prefix) Has(l api.Label) bool {
	return Good(p) && Common(p.Bits, l) >= p.Len
}

// Over: does every label that begins as the other prefix begin as this one?
func (p Prefix) Over(q Prefix) bool {
	return Good(q) && p.Len <= q.Len && p.Has(q.Bits)
}

// Next: the prefix with one bit more.
func (p Prefix) Next(bit int) (Prefix, api.Errno) {
	if !Good(p) || p.Len == Size || bit != 0 && bit != 1 {
		return Prefix{}, api.ErrArg
	}
	p.Bits[p.Len/8] |= byte(bit) << (7 - p.Len%8)
	p.Len++
	return p, api.OK
}

// Hex: a label's 64 small digits.
func Hex(l api.Label) string {
	var s strings.Builder
	for _, b := range l {
		s.WriteByte(digits[b>>4])
		s.WriteByte(digits[b&15])
	}
	return s.String()
}

// Read: the label of 64 small digits.
func Read(s string) (api.Label, api.Errno) {
	var l api.Label
	if len(s) != 2*len(l) {
		return api.Label{}, api.ErrText
	}
	for i := range l {
		high, low := digit(s[2*i]), digit(s[2*i+1])
		if high < 0 || low < 0 {
			return api.Label{}, api.ErrText
		}
		l[i] = byte(high<<4 | low)
	}
	return l, api.OK
}

// digit: what a small hexadecimal digit counts; less than 0, if it is none.
func digit(c byte) int {
	return strings.IndexByte(digits, c)
}
