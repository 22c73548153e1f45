package bloom_test

import (
	"bytes"
	"fmt"
	"math"
	"math/big"
	"slices"
	"strings"
	"testing"
	"unsafe"

	"chirograph/api"
	"chirograph/bloom"
)

// dice are numbers of all kinds, other ones for each seed.
type dice uint32

func (d *dice) roll(n int) int {
	*d = *d*1664525 + 1013904223
	return int(*d>>8) % n
}

// mixed is a text of n bytes of all kinds.
func (d *dice) mixed(n int) string {
	b := make([]byte, n)
	for i := range b {
		b[i] = byte(d.roll(256))
	}
	return string(b)
}

func is(t *testing.T, what string, got, want api.Errno) {
	t.Helper()
	if got != want {
		t.Fatalf("%s: %d instead of %d", what, got, want)
	}
}

// nothing: is it the zero filter?
func nothing(f bloom.Filter) bool {
	return f.Probes == 0 && len(f.Bits) == 0
}

func alike(a, b bloom.Filter) bool {
	return a.Probes == b.Probes && bytes.Equal(a.Bits, b.Bits)
}

// wide is a number of any size; word is what is left of it modulo 2^64.
func wide(n uint64) *big.Int { return new(big.Int).SetUint64(n) }

func word(n *big.Int) *big.Int { return n.Mod(n, new(big.Int).Lsh(big.NewInt(1), 64)) }

// hash is that of the chapter's words, in numbers of any size.
func hash(key string) *big.Int {
	h := wide(14695981039346656037)
	for _, c := range []byte(key) {
		h.Xor(h, wide(uint64(c)))
		h = word(h.Mul(h, wide(1099511628211)))
	}
	h.Xor(h, new(big.Int).Rsh(h, 29))
	h = word(h.Mul(h, wide(0xbf58476d1ce4e5b9)))
	return h.Xor(h, new(big.Int).Rsh(h, 32))
}

// places are a key's places in a filter of so many bits, by the chapter's words.
func places(key string, probes, bits int) []int {
	h := hash(key)
	g := new(big.Int).Rsh(h, 32)
	g.SetBit(g, 0, 1)
	var l []int
	for i := range probes {
		at := word(new(big.Int).Add(h, new(big.Int).Mul(big.NewInt(int64(i)), g)))
		l = append(l, int(at.Mod(at, big.NewInt(int64(bits))).Int64()))
	}
	return l
}

// plain is the filter of keys by the chapter's words.
func plain(keys []string, each int) bloom.Filter {
	probes := each * 7 / 10
	if probes < 1 {
		probes = 1
	}
	f := bloom.Filter{Probes: probes, Bits: make([]byte, (len(keys)*each+7)/8+1)}
	for _, key := range keys {
		for _, at := range places(key, probes, 8*len(f.Bits)) {
			f.Bits[at/8] |= []byte{1, 2, 4, 8, 16, 32, 64, 128}[at%8]
		}
	}
	return f
}

// may: are all bits at a key's places 1?
func may(f bloom.Filter, key string) bool {
	for _, at := range places(key, f.Probes, 8*len(f.Bits)) {
		if f.Bits[at/8]&[]byte{1, 2, 4, 8, 16, 32, 64, 128}[at%8] == 0 {
			return false
		}
	}
	return true
}

// sized is a filter of so many bytes, all of them the same one.
func sized(probes, n int, b byte) bloom.Filter {
	return bloom.Filter{Probes: probes, Bits: bytes.Repeat([]byte{b}, n)}
}

// formless are filters that aren't in form.
func formless() []bloom.Filter {
	return []bloom.Filter{
		{}, sized(0, 1, 0), sized(1, 0, 0), sized(17, 1, 0), sized(1, 8193, 0), sized(-1, 1, 0), sized(16, 0, 0),
		sized(0, 8192, 0), sized(17, 8192, 0), sized(16, 8193, 0), sized(math.MaxInt, 4, 0), sized(math.MinInt, 4, 0),
		sized(1, 65536, 0), sized(1, 1<<20, 0), sized(1<<32+1, 4, 0), {Probes: 4, Bits: []byte{}},
	}
}

// P8.1: Probes is 1 to 16, and there are 1 to 8192 bytes.
func TestGood(t *testing.T) {
	for _, f := range formless() {
		if bloom.Good(f) {
			t.Errorf("%d, %d", f.Probes, len(f.Bits))
		}
	}
	for _, probes := range []int{1, 2, 7, 15, 16} {
		for _, n := range []int{1, 2, 100, 8191, 8192} {
			if !bloom.Good(sized(probes, n, 0)) || !bloom.Good(sized(probes, n, 255)) {
				t.Errorf("%d, %d", probes, n)
			}
		}
	}
}

// P8.1: the chapter's examples, and a few filters written out.
func TestExample(t *testing.T) {
	f, e := bloom.Make([]string{"a", "b"}, 10)
	if e != api.OK || f.Probes != 7 || len(f.Bits) != 4 || !f.May("a") || !f.May("b") {
		t.Errorf("%v, %d", f, e)
	}
	for _, x := range []struct {
		keys []string
		each int
		want string
	}{
		{[]string{"a", "b"}, 10, "102244ff"},
		{[]string{""}, 1, "8000"},
		{[]string{"ann", "bob", "\xff\x00"}, 16, "4483e968a75598"},
		{[]string{"a", "a", "a"}, 32, "00067000033880011cc0000ce0"},
		{nil, 10, "00"},
	} {
		if f, e := bloom.Make(x.keys, x.each); e != api.OK || fmt.Sprintf("%x", f.Bits) != x.want {
			t.Errorf("%q, %d: %x, %d", x.keys, x.each, f.Bits, e)
		}
	}
	s, e := (bloom.Filter{Probes: 1, Bits: []byte{0}}).Bytes()
	if s != "\x01\x01\x01\x01\x00" || e != api.OK {
		t.Errorf("%q, %d", s, e)
	}
}

// P8.1: just the bits at the keys' places are 1.
func TestMake(t *testing.T) {
	for seed := range 40 {
		r := dice(seed)
		var keys []string
		for range r.roll(60) {
			keys = append(keys, r.mixed(r.roll(20)))
		}
		for each := 1; each <= 32; each++ {
			f, e := bloom.Make(keys, each)
			if e != api.OK || !alike(f, plain(keys, each)) {
				t.Fatalf("%q, %d: %v, %d instead of %v", keys, each, f, e, plain(keys, each))
			}
		}
	}
}

// P8.1: how many bytes and Probes there are.
func TestMakeSizes(t *testing.T) {
	probes := []int{1, 1, 2, 2, 3, 4, 4, 5, 6, 7, 7, 8, 9, 9, 10, 11, 11, 12, 13, 14, 14, 15, 16, 16, 17, 18, 18, 19, 20, 21, 21, 22}
	for i, want := range probes {
		f, e := bloom.Make(nil, i+1)
		if e != api.OK || f.Probes != want || !bytes.Equal(f.Bits, []byte{0}) {
			t.Errorf("each %d: %d, %v, %d", i+1, f.Probes, f.Bits, e)
		}
		if bloom.Good(f) != (i+1 <= 24) {
			t.Errorf("each %d: in form?", i+1)
		}
	}
	for _, x := range []struct{ n, each, want int }{
		{0, 32, 1}, {1, 1, 2}, {1, 7, 2}, {1, 8, 2}, {1, 9, 3}, {1, 16, 3}, {1, 17, 4}, {7, 1, 2}, {8, 1, 2}, {9, 1, 3},
		{2048, 1, 257}, {2047, 32, 8189}, {2048, 32, 8193}, {2048, 31, 7937}, {2048, 10, 2561}, {100, 10, 126},
	} {
		keys := make([]string, x.n) // the same one many times: each counts
		f, e := bloom.Make(keys, x.each)
		if e != api.OK || len(f.Bits) != x.want {
			t.Errorf("%d keys, each %d: %d bytes, %d", x.n, x.each, len(f.Bits), e)
		}
		if bloom.Good(f) != (x.each <= 24 && x.want <= 8192) {
			t.Errorf("%d keys, each %d: in form?", x.n, x.each)
		}
	}
}

// P8.1: wrong numbers, and too many keys; the number's error goes ahead.
func TestMakeErrors(t *testing.T) {
	few, most, many := []string{"a"}, make([]string, 2048), make([]string, 2049)
	for _, each := range []int{math.MinInt, -1, 0, 33, 34, 1 << 32, 1<<32 + 1, math.MaxInt} {
		for _, keys := range [][]string{nil, few, most, many} {
			if f, e := bloom.Make(keys, each); e != api.ErrArg || !nothing(f) {
				t.Errorf("%d keys, each %d: %d", len(keys), each, e)
			}
		}
	}
	for _, each := range []int{1, 10, 32} {
		for _, keys := range [][]string{many, make([]string, 5000), make([]string, 1<<17)} {
			if f, e := bloom.Make(keys, each); e != api.ErrBig || !nothing(f) {
				t.Errorf("%d keys, each %d: %d", len(keys), each, e)
			}
		}
		if f, e := bloom.Make(most, each); e != api.OK || nothing(f) {
			t.Errorf("each %d: %d", each, e)
		}
	}
}

// P8.1: whether a key may be there, of filters of any bits.
func TestMay(t *testing.T) {
	yes, no := 0, 0
	for seed := range 3000 {
		r := dice(seed)
		f := bloom.Filter{Probes: 1 + r.roll(16), Bits: []byte(r.mixed(1 + r.roll(1+r.roll(40))))}
		for i := range f.Bits { // most of the bits are 1
			f.Bits[i] |= byte(r.roll(256)) | byte(r.roll(256))
		}
		for range 5 {
			key := r.mixed(r.roll(12))
			got, want := f.May(key), may(f, key)
			if got != want {
				t.Fatalf("%v, %q: %v", f, key, got)
			}
			if got {
				yes++
			} else {
				no++
			}
		}
	}
	if yes < 3000 || no < 3000 {
		t.Errorf("%d, %d", yes, no)
	}
}

// P8.1: each of a key's places counts, and no other bit does.
func TestMayOneBit(t *testing.T) {
	r := dice(9)
	for _, probes := range []int{1, 2, 7, 16} {
		for _, n := range []int{1, 3, 50, 8192} {
			key := r.mixed(8)
			l := places(key, probes, 8*n)
			full, bare := sized(probes, n, 255), sized(probes, n, 0)
			for range 40 {
				l = append(l, r.roll(8*n))
			}
			for i, at := range l {
				full.Bits[at/8] ^= 1 << (at % 8)
				if full.May(key) == slices.Contains(l[:probes], at) {
					t.Fatalf("%d, %d: without bit %d (%d)", probes, n, at, i)
				}
				full.Bits[at/8] ^= 1 << (at % 8)
			}
			for i, at := range l[:probes] {
				if bare.May(key) != may(bare, key) {
					t.Fatalf("%d, %d: with %d bits", probes, n, i)
				}
				bare.Bits[at/8] |= 1 << (at % 8)
			}
			if !bare.May(key) || !full.May(key) {
				t.Fatalf("%d, %d: with all bits", probes, n)
			}
		}
	}
}

// P8.1: of a filter that isn't in form nothing is known.
func TestMayFormless(t *testing.T) {
	for _, f := range formless() {
		for _, key := range []string{"", "a", "key", strings.Repeat("k", 1000)} {
			if !f.May(key) {
				t.Errorf("%d, %d, %.3q", f.Probes, len(f.Bits), key)
			}
		}
	}
	for _, f := range []bloom.Filter{sized(1, 1, 0), sized(16, 1, 0), sized(1, 8192, 0), sized(16, 8192, 0)} {
		if f.May("") || f.May("a") {
			t.Errorf("%d, %d: in form, without a bit", f.Probes, len(f.Bits))
		}
	}
}

// P8.2: no key that is there is missed, however many there are and whatever bytes they have.
func TestNoKeyIsMissed(t *testing.T) {
	r := dice(3)
	keys := []string{"", "\x00", "\x00\x00", "a", "é", strings.Repeat("k", api.MaxKey), strings.Repeat("\xff", 70000)}
	for len(keys) < 2048 {
		keys = append(keys, r.mixed(r.roll(30)))
	}
	for _, n := range []int{1, 2, 7, 8, 100, 2047, 2048} {
		for each := 1; each <= 32; each++ {
			f, e := bloom.Make(keys[:n], each)
			is(t, "Make", e, api.OK)
			for _, key := range keys[:n] {
				if !f.May(key) {
					t.Fatalf("%d keys, each %d: %.20q is missed", n, each, key)
				}
			}
		}
	}
}

// P8.1: with ten bits a key few others are let through, and with more still fewer.
func TestFewOthers(t *testing.T) {
	var keys []string
	for i := range 1000 {
		keys = append(keys, fmt.Sprint("key ", i))
	}
	for each, most := range map[int]int{1: 1000, 5: 150, 10: 30, 20: 5} {
		f, _ := bloom.Make(keys, each)
		n := 0
		for i := range 1000 {
			if f.May(fmt.Sprint("other ", i)) {
				n++
			}
		}
		if n > most || n == 0 && each == 1 {
			t.Errorf("each %d: %d of 1000 others", each, n)
		}
	}
}

// spelled is a number as bytes, by layer 2's words.
func spelled(n int) string {
	s := ""
	for ; n > 0; n >>= 8 {
		s = string([]byte{byte(n)}) + s
	}
	return string([]byte{byte(len(s))}) + s
}

// P8.3: a filter's bytes, there and back.
func TestBytes(t *testing.T) {
	r := dice(4)
	for _, probes := range []int{1, 2, 15, 16} {
		for _, n := range []int{1, 2, 255, 256, 8191, 8192} {
			f := bloom.Filter{Probes: probes, Bits: []byte(r.mixed(n))}
			s, e := f.Bytes()
			if e != api.OK || s != spelled(probes)+spelled(n)+string(f.Bits) {
				t.Fatalf("%d, %d: %.20q, %d", probes, n, s, e)
			}
			g, e := bloom.Read(s)
			if e != api.OK || !alike(f, g) {
				t.Fatalf("%d, %d: %d, %d, %d", probes, n, g.Probes, len(g.Bits), e)
			}
		}
	}
}

// P8.3: what isn't in form has no bytes.
func TestBytesFormless(t *testing.T) {
	for _, f := range formless() {
		if s, e := f.Bytes(); s != "" || e != api.ErrForm {
			t.Errorf("%d, %d: %.9q, %d", f.Probes, len(f.Bits), s, e)
		}
	}
	for _, each := range []int{24, 25, 32} {
		f, _ := bloom.Make([]string{"a"}, each)
		want := api.OK
		if each > 24 {
			want = api.ErrForm
		}
		_, e := f.Bytes()
		is(t, "Bytes", e, want)
	}
}

// P8.3: each kind of wrong bytes.
func TestReadErrors(t *testing.T) {
	text := func(n int) string { return spelled(n) + strings.Repeat("t", n) }
	for want, l := range map[api.Errno][]string{
		api.ErrEnd: {
			"", "\x01", "\x01\x07", "\x01\x07\x01", "\x01\x07\x01\x02", "\x01\x07\x01\x02x", "\x02\x00",
			"\x01\x11\x01\x02x", "\x00\x01\x02x", "\x01\x01" + text(8193)[:8000],
		},
		api.ErrText: {
			"\x09", "\xff", "\x01\x00", "\x02\x00\x07\x01\x01x", "\x01\x07\x01\x00", "\x01\x07\x02\x00\x01x",
			"\x01\x07\x09", "\x08\x80\x00\x00\x00\x00\x00\x00\x00\x01\x01x", "\x01\x11\x09",
		},
		api.ErrBig: {
			"\x01\x07\x03\x01\x00\x01", "\x01\x07\x03\x01\x00\x01xyz", strings.Repeat("x", 65537), "\x01\x07" + text(65536),
			"\x00\x03\x01\x00\x01", "\x01\x07\x01\x01x" + strings.Repeat("x", 65536),
		},
		api.ErrForm: {
			"\x00\x01\x01x", "\x00\x00", "\x01\x01\x00", "\x01\x11\x01\x01x", "\x02\x01\x00\x01\x01x", "\x01\x01" + text(8193),
			"\x01\x01" + text(65000), "\x01\x07\x01\x01xy", "\x01\x11\x01\x01xy", "\x01\x07\x00x", "\x01\x11" + text(8193),
			"\x08\x7f\xff\xff\xff\xff\xff\xff\xff\x01\x01x", "\x08\x01\x00\x00\x00\x00\x00\x00\x01\x01\x01x",
		},
		api.OK: {"\x01\x01\x01\x01x", "\x01\x10\x01\x01x", "\x01\x10" + text(8192)},
	} {
		for _, s := range l {
			f, e := bloom.Read(s)
			if e != want || nothing(f) != (e != api.OK) {
				t.Errorf("%.20q (%d bytes): %d, %d, %d instead of %d", s, len(s), f.Probes, len(f.Bits), e, want)
			}
		}
	}
}

// P8.3: of a filter's bytes each beginning is cut off, and behind them nothing may stand.
func TestReadCut(t *testing.T) {
	f, _ := bloom.Make([]string{"a", "b", "c"}, 10)
	s, _ := f.Bytes()
	for n := range len(s) {
		if g, e := bloom.Read(s[:n]); e != api.ErrEnd || !nothing(g) {
			t.Errorf("%d bytes: %d", n, e)
		}
	}
	for _, more := range []string{"\x00", "x", s} {
		if g, e := bloom.Read(s + more); e != api.ErrForm || !nothing(g) {
			t.Errorf("%q behind: %d", more, e)
		}
	}
}

// P8.3: of any bytes: what is read is in form, and has these bytes and no other ones.
func TestReadAny(t *testing.T) {
	count := map[api.Errno]int{}
	for seed := range 40000 {
		r := dice(seed)
		probes, n := r.roll(20), r.roll(6)
		b := []byte(spelled(probes) + spelled(n) + r.mixed(n))
		for range r.roll(3) {
			b[r.roll(len(b))] = byte(r.roll(20))
		}
		s := string(b)
		f, e := bloom.Read(s)
		count[e]++
		if e != api.OK {
			if !nothing(f) {
				t.Fatalf("%q: %v beside %d", s, f, e)
			}
			continue
		}
		if again, e := f.Bytes(); again != s || e != api.OK || !bloom.Good(f) {
			t.Fatalf("%q: %v, %q, %d", s, f, again, e)
		}
	}
	for _, e := range []api.Errno{api.OK, api.ErrEnd, api.ErrText, api.ErrForm} {
		if count[e] < 1000 {
			t.Errorf("%d but %d times", e, count[e])
		}
	}
}

// lent is a text whose bytes can be made others, as those of nobody's memory can't.
func lent(s string) (string, []byte) {
	b := []byte(s)
	return unsafe.String(unsafe.SliceData(b), len(b)), b
}

// P8.1, P8.3: what is handed in isn't changed or kept, and answers are nobody's but the caller's (K3).
func TestMemory(t *testing.T) {
	keys := []string{"a", "b", "c", "spare"}
	f, _ := bloom.Make(keys[:3], 10)
	if !slices.Equal(keys, []string{"a", "b", "c", "spare"}) {
		t.Errorf("%q", keys)
	}
	bits := string(f.Bits)
	again, _ := bloom.Make(keys[:3], 10)
	again.Bits[0] ^= 255
	s, _ := f.Bytes()
	twin := strings.Clone(s)
	f.May("a")
	f.May("x")
	if bloom.Good(f); string(f.Bits) != bits {
		t.Error("a filter's bits aren't as they were")
	}
	f.Bits[0] ^= 255
	if s != twin {
		t.Error("Bytes shares the filter's memory")
	}
	s, b := lent(s)
	f, _ = bloom.Read(s)
	for i := range b {
		b[i] ^= 255
	}
	if string(f.Bits) != bits {
		t.Error("Read keeps what was handed in")
	}
	b = []byte(twin)
	f, _ = bloom.Read(unsafe.String(unsafe.SliceData(b), len(b)))
	f.Bits[0] ^= 255
	if string(b) != twin {
		t.Error("Read's filter lies in what was handed in")
	}
	spare := []byte{1, 2, 3, 4}
	if _, e := (bloom.Filter{Probes: 3, Bits: spare[:2]}).Bytes(); e != api.OK || !bytes.Equal(spare, []byte{1, 2, 3, 4}) {
		t.Errorf("%v", spare)
	}
}
