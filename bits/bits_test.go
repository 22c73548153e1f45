package bits_test

import (
	"math"
	"strings"
	"testing"

	"chirograph/api"
	"chirograph/bits"
)

// spelled is a label's bits as 256 characters 0 and 1: the tests' own idea of them.
func spelled(l api.Label) string {
	var s strings.Builder
	for _, b := range l {
		for mask := 0x80; mask > 0; mask >>= 1 {
			if int(b)&mask != 0 {
				s.WriteByte('1')
			} else {
				s.WriteByte('0')
			}
		}
	}
	return s.String()
}

// label is the one of bits that are spelled so, with 0 behind them.
func label(s string) api.Label {
	var l api.Label
	for i, c := range s {
		if c == '1' {
			l[i/8] += 0x80 >> (i % 8)
		}
	}
	return l
}

// labels are noughts, ones, one bit alone and one bit wanting at each place, and mixed ones.
func labels() []api.Label {
	l := []api.Label{{}, label(strings.Repeat("1", 256))}
	for i := range 256 {
		one := strings.Repeat("0", i) + "1"
		l = append(l, label(one), label(strings.Repeat("1", i)+"0"+strings.Repeat("1", 255-i)))
	}
	x := uint32(7)
	for range 40 {
		var m api.Label
		for j := range m {
			x = x*1664525 + 1013904223
			m[j] = byte(x >> 24)
		}
		l = append(l, m)
	}
	return l
}

// few are some of the labels, where each is held against each.
func few() []api.Label {
	var l []api.Label
	for i, x := range labels() {
		if i < 40 || i%8 == 2 || i > 505 {
			l = append(l, x)
		}
	}
	return l
}

func outside() []int {
	return []int{-1, -8, -256, math.MinInt, 256, 257, 264, 1 << 20, math.MaxInt}
}

// P1.1
func TestBit(t *testing.T) {
	for _, l := range labels() {
		s := spelled(l)
		for i := range 256 {
			if bits.Bit(l, i) != int(s[i]-'0') {
				t.Fatalf("bit %d of %x: %d", i, l, bits.Bit(l, i))
			}
		}
		for _, i := range outside() {
			if bits.Bit(l, i) != 0 {
				t.Fatalf("bit %d of %x isn't 0", i, l)
			}
		}
	}
	for i, first := range []byte{0x80, 0x40, 0x20, 0x10, 8, 4, 2, 1} {
		if bits.Bit(api.Label{first}, i) != 1 || bits.Bit(api.Label{1: first}, 8+i) != 1 || bits.Bit(api.Label{31: first}, 248+i) != 1 {
			t.Errorf("bit %d of a byte", i)
		}
	}
}

// P1.1
func TestOrderAndCommon(t *testing.T) {
	l := few()
	for _, a := range l {
		for _, b := range l {
			x, y := spelled(a), spelled(b)
			n := 0
			for n < 256 && x[n] == y[n] {
				n++
			}
			if bits.Common(a, b) != n {
				t.Fatalf("Common(%x, %x) = %d", a, b, bits.Common(a, b))
			}
			if bits.Order(a, b) != strings.Compare(x, y) {
				t.Fatalf("Order(%x, %x) = %d", a, b, bits.Order(a, b))
			}
		}
	}
	// A high bit counts more than all behind it, and bytes have no sign.
	if bits.Order(api.Label{0x7f, 0xff}, api.Label{0x80}) != -1 || bits.Order(api.Label{0: 1}, api.Label{1: 0xff}) != 1 || bits.Order(api.Label{31: 1}, api.Label{31: 2}) != -1 {
		t.Error("Order")
	}
}

// P1.2
func TestCut(t *testing.T) {
	for _, l := range few() {
		s := spelled(l)
		for n := range 257 {
			p := bits.Cut(l, n)
			if p.Len != n || p.Bits != label(s[:n]) || !bits.Good(p) {
				t.Fatalf("Cut(%x, %d) = %v", l, n, p)
			}
		}
		for _, n := range outside() {
			want := bits.Prefix{}
			if n > 0 {
				want = bits.Prefix{Len: 256, Bits: l}
			}
			if bits.Cut(l, n) != want {
				t.Fatalf("Cut(%x, %d) = %v", l, n, bits.Cut(l, n))
			}
		}
	}
}

// P1.2
func TestGood(t *testing.T) {
	for n := range 257 {
		for i := range 256 {
			one := label(strings.Repeat("0", i) + "1")
			if bits.Good(bits.Prefix{Len: n, Bits: one}) != (i < n) {
				t.Fatalf("a prefix of %d bits with bit %d", n, i)
			}
		}
		if !bits.Good(bits.Prefix{Len: n}) {
			t.Fatalf("a prefix of %d noughts", n)
		}
	}
	for _, n := range outside() {
		if n != 256 && (bits.Good(bits.Prefix{Len: n}) || bits.Good(bits.Prefix{Len: n, Bits: api.Label{1}})) {
			t.Errorf("a prefix of %d bits", n)
		}
	}
}

// prefixes are some in form, of all kinds of lengths, and some that aren't.
func prefixes() (good, bad []bits.Prefix) {
	all := labels()
	for _, l := range []api.Label{all[0], all[1], all[8], all[9], all[514], all[520]} {
		for _, n := range []int{0, 1, 2, 3, 7, 8, 9, 127, 128, 250, 255, 256} {
			good = append(good, bits.Cut(l, n))
		}
	}
	for _, n := range outside() {
		if n != 256 {
			bad = append(bad, bits.Prefix{Len: n}, bits.Prefix{Len: n, Bits: all[1]})
		}
	}
	for _, n := range []int{0, 1, 2, 7, 8, 255} {
		bad = append(bad, bits.Prefix{Len: n, Bits: all[1]}, bits.Prefix{Len: n, Bits: label(strings.Repeat("0", n) + "1")})
	}
	return good, append(bad, bits.Prefix{Len: 3, Bits: api.Label{31: 1}})
}

// P1.2
func TestHas(t *testing.T) {
	good, bad := prefixes()
	for _, l := range labels() {
		s := spelled(l)
		for _, p := range good {
			if p.Has(l) != strings.HasPrefix(s, spelled(p.Bits)[:p.Len]) {
				t.Fatalf("%v has %x: %t", p, l, p.Has(l))
			}
		}
		for _, p := range bad {
			if p.Has(l) || p.Has(p.Bits) {
				t.Fatalf("%v has %x", p, l)
			}
		}
	}
}

// P1.2
func TestOver(t *testing.T) {
	good, bad := prefixes()
	for _, p := range good {
		for _, q := range good {
			// The first and the last label that begin as q: if these do, all between do.
			s := spelled(q.Bits)[:q.Len]
			want := p.Has(label(s)) && p.Has(label(s+strings.Repeat("1", 256-q.Len)))
			if p.Over(q) != want {
				t.Fatalf("%v over %v: %t", p, q, p.Over(q))
			}
		}
		for _, q := range bad {
			if p.Over(q) || q.Over(p) || q.Over(q) {
				t.Fatalf("%v over %v", p, q)
			}
		}
	}
}

// P1.2
func TestNext(t *testing.T) {
	good, bad := prefixes()
	for _, p := range good {
		for bit := range 2 {
			q, e := p.Next(bit)
			if p.Len == 256 {
				if e != api.ErrArg || q != (bits.Prefix{}) {
					t.Fatalf("Next(%d) of %v = %v, %d", bit, p, q, e)
				}
				continue
			}
			want := label(spelled(p.Bits)[:p.Len] + string(rune('0'+bit)))
			if e != api.OK || q.Len != p.Len+1 || q.Bits != want {
				t.Fatalf("Next(%d) of %v = %v, %d", bit, p, q, e)
			}
		}
		for _, bit := range []int{-1, 2, 3, 256, 257, math.MinInt, math.MaxInt} {
			if q, e := p.Next(bit); e != api.ErrArg || q != (bits.Prefix{}) {
				t.Fatalf("Next(%d) of %v = %v, %d", bit, p, q, e)
			}
		}
	}
	for _, p := range bad {
		for bit := -1; bit < 3; bit++ {
			if q, e := p.Next(bit); e != api.ErrArg || q != (bits.Prefix{}) {
				t.Fatalf("Next(%d) of %v = %v, %d", bit, p, q, e)
			}
		}
	}
}

// P1.2: bit by bit each label's prefixes are come by.
func TestNextUpToTheLabel(t *testing.T) {
	for _, l := range few() {
		p := bits.Prefix{}
		for i := range 256 {
			next, e := p.Next(bits.Bit(l, i))
			if e != api.OK || next != bits.Cut(l, i+1) || !next.Has(l) || !p.Over(next) || next.Over(p) {
				t.Fatalf("bit %d of %x: %v, %d", i, l, next, e)
			}
			p = next
		}
		if p.Bits != l {
			t.Fatalf("%x became %v", l, p)
		}
	}
}

// P1.3
func TestHexAndRead(t *testing.T) {
	for _, l := range labels() {
		s := bits.Hex(l)
		if len(s) != 64 || strings.Trim(s, "0123456789abcdef") != "" {
			t.Fatalf("Hex(%x) = %s", l, s)
		}
		if back, e := bits.Read(s); e != api.OK || back != l {
			t.Fatalf("Read(%s) = %x, %d", s, back, e)
		}
	}
	l := api.Label{0x01, 0x23, 0x45, 0x67, 0x89, 0xab, 0xcd, 0xef, 31: 0x5e}
	want := "0123456789abcdef" + strings.Repeat("0", 46) + "5e"
	if bits.Hex(l) != want {
		t.Errorf("Hex(%x) = %s", l, bits.Hex(l))
	}
	if back, e := bits.Read(want); e != api.OK || back != l {
		t.Errorf("Read(%s) = %x, %d", want, back, e)
	}
}

func refused(t *testing.T, s string) {
	t.Helper()
	if l, e := bits.Read(s); e != api.ErrText || l != (api.Label{}) {
		t.Fatalf("Read(%q) = %x, %d", s, l, e)
	}
}

// P1.3: every byte that is no small digit is refused, at the first, a middle and the last place.
func TestReadRefuses(t *testing.T) {
	good := strings.Repeat("5e", 32)
	for _, n := range []int{0, 1, 31, 32, 62, 63, 65, 66, 128, 1 << 17} {
		refused(t, strings.Repeat("5", n))
	}
	refused(t, " "+good)
	refused(t, good+"\n")
	refused(t, "0x"+good[2:])
	refused(t, strings.Repeat("\u00e9", 32))
	for c := range 256 {
		for _, i := range []int{0, 1, 31, 62, 63} {
			s := good[:i] + string([]byte{byte(c)}) + good[i+1:]
			if !strings.Contains("0123456789abcdef", string([]byte{byte(c)})) {
				refused(t, s)
			} else if l, e := bits.Read(s); e != api.OK || bits.Hex(l) != s {
				t.Fatalf("Read(%q) = %x, %d", s, l, e)
			}
		}
	}
}

// P1.1, P1.2: the chapter's example.
func TestExample(t *testing.T) {
	a, b := api.Label{0xc0}, api.Label{0xe0}
	p := bits.Cut(b, 2)
	q, e := p.Next(1)
	if bits.Bit(a, 1) != 1 || bits.Common(a, b) != 2 || bits.Order(a, b) != -1 || p != (bits.Prefix{Len: 2, Bits: a}) || !p.Has(a) || e != api.OK || q != (bits.Prefix{Len: 3, Bits: b}) {
		t.Errorf("p = %v, q = %v, %d", p, q, e)
	}
}
