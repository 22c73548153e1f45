package step_test

import (
	"math"
	"slices"
	"strings"
	"testing"

	"chirograph/api"
	"chirograph/bits"
	"chirograph/node"
	"chirograph/step"
)

// number is a number's bytes, by the words of layer 2.
func number(n int) string {
	s := ""
	for ; n > 0; n >>= 8 {
		s = string([]byte{byte(n)}) + s
	}
	return string([]byte{byte(len(s))}) + s
}

// item is an item's bytes.
func item(x node.Item) string {
	return number(x.Prefix.Len) + string(x.Prefix.Bits[:]) + string(x.Sum[:]) + number(x.At)
}

// leaf is a leaf's bytes.
func leaf(l node.Leaf) string {
	return string(l.Label[:]) + string(l.Value[:]) + number(l.At)
}

// spelt is a step's bytes, by the chapter's words.
func spelt(s step.Step) string {
	var b strings.Builder
	b.WriteString(number(len(s.Same)))
	for _, x := range s.Same {
		b.WriteString(item(x))
	}
	for _, l := range [][]node.Leaf{s.Old, s.New} {
		b.WriteString(number(len(l)))
		for _, x := range l {
			b.WriteString(leaf(x))
		}
	}
	return b.String()
}

// reads asks what Read answers beside an error.
func reads(t *testing.T, b string, want api.Errno) {
	t.Helper()
	if s, e := step.Read(b); !same(s, step.Step{}) || e != want {
		t.Errorf("Read of %.300q: %v, %d instead of %d", b, s, e, want)
	}
}

// some are steps of all kinds, also such as lead nowhere.
func some(t *testing.T) []step.Step {
	t.Helper()
	x, l := over(api.Label{0xf0}, 9), at(api.Label{3})
	all := []step.Step{
		{}, {Same: []node.Item{{}}}, {Old: []node.Leaf{{}}}, {New: []node.Leaf{{}}}, {Same: []node.Item{x, x}, Old: []node.Leaf{l, l}, New: []node.Leaf{l}},
		{Same: []node.Item{{At: 1 << 30}, {Prefix: bits.Cut(api.Label{1, 31: 1}, 256), At: 255}}}, {Old: []node.Leaf{{At: 1 << 30}, {At: 256}}, New: []node.Leaf{{At: 1 << 30}, l}},
	}
	for seed := range 100 {
		r := dice(seed)
		leaves := r.leaves(20)
		gone, fresh := r.change(leaves)
		all = append(all, made(t, leaves, gone, fresh...))
	}
	return all
}

// P19.4: there and back, as the chapter spells it.
func TestBytes(t *testing.T) {
	for _, s := range some(t) {
		b, e := step.Bytes(s)
		if e != api.OK || b != spelt(s) {
			t.Errorf("Bytes of %v: %q, %d instead of %q", s, b, e, spelt(s))
		}
		if u, e := step.Read(b); e != api.OK || !same(u, s) {
			t.Errorf("Read of %q: %v, %d instead of %v", b, u, e, s)
		}
		reads(t, b+"\x00", api.ErrForm)
	}
	if b, _ := step.Bytes(step.Step{}); b != "\x00\x00\x00" {
		t.Errorf("%q", b)
	}
}

// P19.4: as many things as may be, and as many bytes, and one more.
func TestBytesMost(t *testing.T) {
	items, leaves := make([]node.Item, 2001), make([]node.Leaf, 501)
	for i, x := range []struct {
		s    step.Step
		want api.Errno
	}{
		{step.Step{Same: items}, api.ErrBig}, {step.Step{Old: leaves}, api.ErrBig}, {step.Step{New: leaves}, api.ErrBig}, {step.Step{Same: make([]node.Item, 1<<16)}, api.ErrBig},
		// Of 66 bytes an item, 65 a leaf: 2000 items have more bytes than may be; 992 of them, 500 leaves of Old and of New not.
		{step.Step{Same: items[:2000]}, api.ErrBig}, {step.Step{Same: items[:992]}, api.OK}, {step.Step{Same: items[:993]}, api.ErrBig},
		{step.Step{Old: leaves[:500], New: leaves[:500]}, api.OK}, {step.Step{Old: leaves[:500]}, api.OK}, {step.Step{New: leaves[:500]}, api.OK},
	} {
		b, e := step.Bytes(x.s)
		if e != x.want || (b != "") != (e == api.OK) || e == api.OK && b != spelt(x.s) {
			t.Errorf("%d: %d bytes, %d instead of %d", i, len(b), e, x.want)
		}
		if e == api.OK {
			if s, e := step.Read(b); e != api.OK || !same(s, x.s) {
				t.Errorf("%d: %d", i, e)
			}
		}
	}
	// Just as many bytes as a text may have, and one more.
	for more, want := range []api.Errno{api.OK, api.ErrBig} {
		s := step.Step{Same: slices.Clone(items[:992])}
		for i := range 65536 - len(spelt(s)) + more {
			s.Same[i].At = 1
		}
		if b, e := step.Bytes(s); e != want || len(spelt(s)) != 65536+more || (b == spelt(s)) != (want == api.OK) {
			t.Errorf("%d bytes: %d", len(spelt(s)), e)
		}
		if u, e := step.Read(spelt(s)); e != want || same(u, s) != (want == api.OK) {
			t.Errorf("%d bytes: %d", len(spelt(s)), e)
		}
	}
}

// P19.4: each error of Bytes, and which is the first one.
func TestBytesErrors(t *testing.T) {
	bad, worse := []node.Item{{At: -1}}, []node.Leaf{{At: -1}}
	for i, x := range []struct {
		s    step.Step
		want api.Errno
	}{
		{step.Step{Same: slices.Repeat(bad, 2001)}, api.ErrBig}, {step.Step{Same: bad, Old: slices.Repeat(worse, 501)}, api.ErrBig}, {step.Step{Same: bad, Old: worse, New: slices.Repeat(worse, 501)}, api.ErrBig},
		{step.Step{Same: bad}, api.ErrArg}, {step.Step{Same: slices.Repeat(bad, 2000)}, api.ErrArg}, {step.Step{Old: slices.Repeat(worse, 500)}, api.ErrArg}, {step.Step{Old: worse}, api.ErrArg}, {step.Step{New: worse}, api.ErrArg},
		{step.Step{Same: append(make([]node.Item, 1999), bad...)}, api.ErrArg}, {step.Step{Same: make([]node.Item, 2000), New: append(make([]node.Leaf, 499), worse...)}, api.ErrArg},
		{step.Step{Same: []node.Item{{}, {At: 1<<30 + 1}}}, api.ErrArg}, {step.Step{Same: []node.Item{{Prefix: bits.Prefix{Len: 257}}}}, api.ErrArg}, {step.Step{Same: []node.Item{{Prefix: bits.Prefix{Len: 3, Bits: api.Label{0x10}}}}}, api.ErrArg},
		{step.Step{Same: []node.Item{{Prefix: bits.Prefix{Len: -1}}}}, api.ErrArg}, {step.Step{Old: []node.Leaf{{}, {At: 1<<30 + 1}}}, api.ErrArg}, {step.Step{New: []node.Leaf{{}, {At: math.MaxInt}}}, api.ErrArg},
	} {
		if b, e := step.Bytes(x.s); b != "" || e != x.want {
			t.Errorf("%d: %.50q, %d instead of %d", i, b, e, x.want)
		}
	}
}

// P19.4: what isn't a step's bytes, and which error is the first one.
func TestReadErrors(t *testing.T) {
	good, l := item(over(api.Label{0xf0}, 9)), leaf(at(api.Label{3}))
	bad, late := item(node.Item{At: 1<<30 + 1}), leaf(node.Leaf{At: 1<<30 + 1})
	one := number(1)
	for _, x := range []struct {
		b    string
		want api.Errno
	}{
		{"", api.ErrEnd}, {"\x09", api.ErrText}, {"\x01", api.ErrEnd}, {"\x01\x00", api.ErrText}, {"\x02\x00\x01", api.ErrText}, {"\x00", api.ErrEnd}, {"\x00\x00", api.ErrEnd}, {"\x00\x00\x00\x00", api.ErrForm}, {"\x00\x00\x09", api.ErrText}, {"\x00\x09", api.ErrText},
		// The counts.
		{number(2001), api.ErrBig}, {number(2001) + "\x09", api.ErrBig}, {number(2000), api.ErrEnd}, {number(math.MaxInt), api.ErrBig}, {"\x08" + strings.Repeat("\xff", 8), api.ErrText},
		{"\x00" + number(501), api.ErrBig}, {"\x00" + number(500), api.ErrEnd}, {"\x00\x00" + number(501), api.ErrBig}, {"\x00\x00" + number(500), api.ErrEnd}, {"\x00" + number(2000) + "\x09", api.ErrBig}, {one + good + number(501), api.ErrBig}, {"\x00\x00" + number(501) + l, api.ErrBig},
		// What is wanting of an item or a leaf, or isn't in form.
		{one + good[:10], api.ErrEnd}, {one + good, api.ErrEnd}, {one + good + "\x00", api.ErrEnd}, {number(2) + good + "\x00\x00", api.ErrEnd}, {one + good + "\x00\x00\x00", api.ErrForm}, {one + "\x01\x00", api.ErrText}, {one + good[:len(good)-2] + "\x09", api.ErrText},
		{"\x00" + one + l[:63], api.ErrEnd}, {"\x00" + one + l[:64], api.ErrEnd}, {"\x00" + one + l, api.ErrEnd}, {"\x00\x00" + one + l[:64], api.ErrEnd}, {"\x00\x00" + one + l + "\x00", api.ErrForm}, {"\x00" + one + l[:64] + "\x01\x00", api.ErrText}, {"\x00\x00" + one + l[:64] + "\x09", api.ErrText},
		// What isn't good is told ahead of what is behind it,
		{one + bad, api.ErrArg}, {number(2) + bad, api.ErrArg}, {number(2) + bad + "\x09", api.ErrArg}, {one + bad + number(501), api.ErrArg}, {number(3) + good + bad + "\x09", api.ErrArg}, {one + bad + "\x00\x00\x00", api.ErrArg},
		{one + item(node.Item{Prefix: bits.Prefix{Len: 257}}), api.ErrArg}, {one + item(node.Item{Prefix: bits.Prefix{Len: 255, Bits: api.Label{31: 1}}}) + "\x09", api.ErrArg}, {one + item(node.Item{Prefix: bits.Prefix{Len: math.MaxInt}}), api.ErrArg},
		{"\x00" + one + late, api.ErrArg}, {"\x00" + number(2) + late + "x", api.ErrArg}, {"\x00" + one + late + number(501), api.ErrArg}, {"\x00" + one + l + one + late, api.ErrArg}, {"\x00\x00" + number(2) + late, api.ErrArg}, {"\x00\x00" + number(2) + l + late + "x", api.ErrArg},
		// but behind what is ahead of it.
		{number(2001) + bad, api.ErrBig}, {one + good + number(501) + late, api.ErrBig}, {one + bad[:len(bad)-1], api.ErrEnd}, {one + number(257), api.ErrEnd}, {"\x00" + one + late[:len(late)-1], api.ErrEnd}, {one + item(node.Item{Prefix: bits.Prefix{Len: 257}})[:67] + "\x09", api.ErrText},
	} {
		reads(t, x.b, x.want)
	}
	// More bytes than a text may have.
	reads(t, strings.Repeat("\x00", 65536), api.ErrForm)
	reads(t, strings.Repeat("\x00", 65537), api.ErrBig)
	reads(t, strings.Repeat("\x09", 65537), api.ErrBig)
}

// P19.4: no beginning of a step's bytes is a step's.
func TestReadOfCut(t *testing.T) {
	for _, s := range some(t)[:25] {
		b := spelt(s)
		for n := 0; n < len(b); n += 1 + len(b)/700 {
			reads(t, b[:n], api.ErrEnd)
		}
	}
}

// P19.4: one spelling: what is read of bytes that were turned is spelt as those.
func TestReadOfTurned(t *testing.T) {
	taken := 0
	for seed, s := range some(t) {
		r := dice(seed)
		for range 100 {
			b := []byte(spelt(s))
			for range 1 + r.roll(2) {
				b[r.roll(len(b))] ^= byte(1 << r.roll(8))
			}
			u, e := step.Read(string(b))
			if e != api.OK {
				reads(t, string(b), e)
				continue
			}
			taken++
			if c, e := step.Bytes(u); c != string(b) || e != api.OK {
				t.Fatalf("%q is read, and spelt %q, %d", b, c, e)
			}
		}
	}
	if taken < 1000 {
		t.Errorf("%d taken", taken)
	}
}

// P19.1, P19.4: a step of which one bit was turned is refused, or leads elsewhere. (But what is told of one item alone beside which nothing stands, nothing hangs on, save its sum.)
func TestTurnedStep(t *testing.T) {
	for seed := range 12 {
		r := dice(seed)
		l := r.leaves(8)
		gone, fresh := r.change(l)
		from, to := sum(l...), sum(behind(l, gone, fresh)...)
		whole := made(t, l, gone, fresh...)
		if len(whole.Same) == 1 && len(whole.Old) == 0 {
			continue
		}
		b := spelt(whole)
		for i := range 8 * len(b) {
			turned := []byte(b)
			turned[i/8] ^= 1 << (i % 8)
			s, e := step.Read(string(turned))
			if e == api.OK && step.Check(from, to, s) == api.OK {
				t.Fatalf("bit %d of %q", i, b)
			}
		}
	}
}
