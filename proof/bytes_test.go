package proof_test

import (
	"math"
	"slices"
	"strings"
	"testing"

	"chirograph/api"
	"chirograph/bits"
	"chirograph/node"
	"chirograph/proof"
)

// number is a number's bytes, by the words of layer 2.
func number(n int) string {
	s := ""
	for ; n > 0; n >>= 8 {
		s = string([]byte{byte(n)}) + s
	}
	return string([]byte{byte(len(s))}) + s
}

// text is a text's bytes.
func text(s string) string {
	return number(len(s)) + s
}

// item is an item's bytes.
func item(x node.Item) string {
	return number(x.Prefix.Len) + string(x.Prefix.Bits[:]) + string(x.Sum[:]) + number(x.At)
}

// spelt is a proof's bytes, by the chapter's words, of any proof whose end is right.
func spelt(p proof.Proof) string {
	s := number(p.End)
	switch p.End {
	case proof.Leaf:
		end, _ := node.Bytes(p.Leaf)
		s += text(end)
	case proof.Pair:
		end, _ := node.Bytes(p.Pair)
		s += text(end)
	}
	s += number(len(p.Path))
	for _, x := range p.Path {
		s += item(x)
	}
	return s
}

// reads asks what Read answers beside an error.
func reads(t *testing.T, s string, want api.Errno) {
	t.Helper()
	if p, e := proof.Read(s); !same(p, proof.Proof{}) || e != want {
		t.Errorf("Read of %.200q: %v, %d instead of %d", s, p, e, want)
	}
}

// some are proofs of each kind, long ones and such as are proofs of nothing.
func some(t *testing.T) []proof.Proof {
	t.Helper()
	deep := chain()
	l, x := at(api.Label{3}), over(api.Label{0xf0}, 9)
	all := []proof.Proof{
		{}, {Path: []node.Item{x, x, {}}},
		{End: proof.Leaf}, {End: proof.Leaf, Leaf: l}, {End: proof.Leaf, Leaf: node.Leaf{At: 1 << 30}, Path: []node.Item{x}},
		{End: proof.Leaf, Leaf: l, Path: []node.Item{{}, {At: 1 << 30}, {Prefix: bits.Cut(l.Label, 256), At: 255}, x}},
		{End: proof.Pair, Pair: node.Inner{Left: l.Item(), Right: x}}, {End: proof.Pair, Pair: node.Inner{Left: l.Item(), Right: x}, Path: []node.Item{x}},
		{End: proof.Pair, Pair: node.Inner{Left: l.Item(), Right: x}, Path: make([]node.Item, 256)},
		made(t, deep, deep[0].Label), made(t, deep, api.Label{5, 31: 0x5f}), made(t, deep[1:], api.Label{5, 31: 0x5e}),
	}
	for seed := range 20 {
		r := dice(seed)
		leaves := r.leaves(20)
		for _, label := range r.some(leaves) {
			all = append(all, made(t, leaves, label))
		}
	}
	return all
}

// P18.3: there and back, as the chapter spells it.
func TestBytes(t *testing.T) {
	for _, p := range some(t) {
		s, e := proof.Bytes(p)
		if e != api.OK || s != spelt(p) {
			t.Errorf("Bytes of %v: %q, %d instead of %q", p, s, e, spelt(p))
		}
		if q, e := proof.Read(s); e != api.OK || !same(q, p) {
			t.Errorf("Read of %q: %v, %d instead of %v", s, q, e, p)
		}
		reads(t, s+"\x00", api.ErrForm)
	}
	if s, _ := proof.Bytes(proof.Proof{}); s != "\x00\x00" {
		t.Errorf("%q", s)
	}
}

// P18.3: each error of Bytes, and which is the first one.
func TestBytesErrors(t *testing.T) {
	good, bad := over(api.Label{0xf0}, 9), node.Item{At: -1}
	form := node.Inner{Left: good, Right: at(api.Label{3}).Item()}
	long, worse := make([]node.Item, 257), slices.Repeat([]node.Item{bad}, 257)
	for i, x := range []struct {
		p    proof.Proof
		want api.Errno
	}{
		{proof.Proof{End: -1}, api.ErrArg}, {proof.Proof{End: 3}, api.ErrArg}, {proof.Proof{End: math.MinInt}, api.ErrArg}, {proof.Proof{End: math.MaxInt}, api.ErrArg},
		{proof.Proof{End: 3, Leaf: node.Leaf{At: 3}, Path: long}, api.ErrArg},
		{proof.Proof{End: proof.Leaf, Leaf: node.Leaf{At: -1}}, api.ErrArg}, {proof.Proof{End: proof.Leaf, Leaf: node.Leaf{At: 1<<30 + 1}, Path: long}, api.ErrArg},
		{proof.Proof{End: proof.Pair, Pair: form}, api.ErrForm}, {proof.Proof{End: proof.Pair, Pair: form, Path: long}, api.ErrForm}, {proof.Proof{End: proof.Pair, Pair: form, Path: []node.Item{bad}}, api.ErrForm},
		{proof.Proof{End: proof.Pair, Pair: node.Inner{Left: bad, Right: good}, Path: long}, api.ErrArg},
		{proof.Proof{Path: long}, api.ErrBig}, {proof.Proof{End: proof.Leaf, Path: worse}, api.ErrBig}, {proof.Proof{Path: make([]node.Item, 1<<20)}, api.ErrBig},
		{proof.Proof{Path: []node.Item{bad}}, api.ErrArg}, {proof.Proof{End: proof.Leaf, Path: []node.Item{good, bad, good}}, api.ErrArg}, {proof.Proof{Path: worse[:256]}, api.ErrArg},
		{proof.Proof{Path: []node.Item{{At: 1<<30 + 1}}}, api.ErrArg}, {proof.Proof{Path: []node.Item{{Prefix: bits.Prefix{Len: 257}}}}, api.ErrArg},
		{proof.Proof{Path: []node.Item{{Prefix: bits.Prefix{Bits: api.Label{1}}}}}, api.ErrArg}, {proof.Proof{Path: []node.Item{{Prefix: bits.Prefix{Len: -1}}}}, api.ErrArg},
	} {
		if s, e := proof.Bytes(x.p); s != "" || e != x.want {
			t.Errorf("%d: %.50q, %d instead of %d", i, s, e, x.want)
		}
	}
}

// P18.3: the end as it is read.
func TestReadEnd(t *testing.T) {
	leaf, _ := node.Bytes(at(api.Label{3}))
	pair, _ := node.Bytes(node.Inner{Left: at(api.Label{3}).Item(), Right: over(api.Label{0xf0}, 9)})
	turned := pair[:1] + item(over(api.Label{0xf0}, 9)) + item(at(api.Label{3}).Item())
	for _, x := range []struct {
		s    string
		want api.Errno
	}{
		{"", api.ErrEnd}, {"\x09", api.ErrText}, {"\x01", api.ErrEnd}, {"\x01\x00", api.ErrText}, {"\x02\x00\x01", api.ErrText},
		{"\x01\x03", api.ErrBig}, {"\x01\x03\x00", api.ErrBig}, {"\x02\x01\x00" + text(leaf) + "\x00", api.ErrBig}, {"\x08" + strings.Repeat("\x7f", 8), api.ErrBig}, {"\x08" + strings.Repeat("\xff", 8), api.ErrText},
		{"\x00", api.ErrEnd}, {number(1), api.ErrEnd}, {number(2), api.ErrEnd}, {number(1) + "\x09", api.ErrText}, {number(1) + number(5) + "abc", api.ErrEnd},
		{number(1) + number(65537), api.ErrBig}, {number(2) + "\x01\x00", api.ErrText},
		// The node's errors, ahead of what is behind it.
		{number(1) + text(""), api.ErrEnd}, {number(1) + text("x") + "\x09", api.ErrText}, {number(2) + text(leaf[:9]) + "\x00", api.ErrEnd},
		{number(1) + text(leaf+"\x00") + "\x00", api.ErrForm}, {number(1) + text(leaf[:65]+"\x04\xff\xff\xff\xff") + "\x09", api.ErrArg}, {number(2) + text(turned) + "\x09", api.ErrForm},
		{number(2) + text(pair[:70]) + "\x00", api.ErrEnd},
		// The other kind of node, ahead of what is behind it.
		{number(1) + text(pair) + "\x00", api.ErrForm}, {number(2) + text(leaf) + "\x00", api.ErrForm}, {number(1) + text(pair), api.ErrForm}, {number(2) + text(leaf) + "\x09", api.ErrForm},
		{number(1) + text(leaf), api.ErrEnd}, {number(2) + text(pair), api.ErrEnd}, {number(1) + text(leaf) + "\x09", api.ErrText},
		// None has no text: its size is the count, its first bytes an item, which isn't good.
		{number(0) + text(leaf) + "\x00", api.ErrArg}, {"\x00\x00\x00", api.ErrForm},
	} {
		reads(t, x.s, x.want)
	}
	// More bytes than a text may have.
	reads(t, strings.Repeat("\x00", 65536), api.ErrForm)
	reads(t, strings.Repeat("\x09", 65536), api.ErrText)
	reads(t, strings.Repeat("\x00", 65537), api.ErrBig)
	reads(t, strings.Repeat("\x09", 65537), api.ErrBig)
}

// P18.3: the path as it is read.
func TestReadPath(t *testing.T) {
	leaf, _ := node.Bytes(at(api.Label{3}))
	for _, head := range []string{number(0), number(1) + text(leaf)} {
		good := item(over(api.Label{0xf0}, 9))
		for _, x := range []struct {
			s    string
			want api.Errno
		}{
			{number(257), api.ErrBig}, {number(257) + "\x09", api.ErrBig}, {number(1 << 40), api.ErrBig}, {"\x01", api.ErrEnd}, {"\x02\x00\x01" + good, api.ErrText},
			{number(2) + good, api.ErrEnd}, {number(1) + good + good, api.ErrForm}, {number(0) + good, api.ErrForm}, {number(256) + good, api.ErrEnd},
			{number(1) + good + "\x00", api.ErrForm}, {number(2) + good + "\x09", api.ErrText},
			// An item that isn't good is told ahead of what is behind it,
			{number(1) + item(node.Item{At: 1<<30 + 1}), api.ErrArg}, {number(2) + item(node.Item{At: 1<<30 + 1}), api.ErrArg}, {number(1) + item(node.Item{At: 1<<30 + 1}) + "x", api.ErrArg},
			{number(9) + good + item(node.Item{Prefix: bits.Prefix{Len: 257}}) + "\x09", api.ErrArg}, {number(2) + good + item(node.Item{Prefix: bits.Prefix{Len: 255, Bits: api.Label{31: 1}}}) + "\x09", api.ErrArg},
			{number(2) + item(node.Item{Prefix: bits.Prefix{Len: math.MaxInt}}) + "\x00\x01\x02", api.ErrArg},
			// but what is wanting of it ahead of that.
			{number(1) + item(node.Item{Prefix: bits.Prefix{Len: 257}})[:66], api.ErrEnd}, {number(1) + number(257), api.ErrEnd}, {number(1) + item(node.Item{Prefix: bits.Prefix{Len: 257}})[:67] + "\x09", api.ErrText},
		} {
			reads(t, head+x.s, x.want)
		}
	}
}

// P18.3: no beginning of a proof's bytes is a proof's.
func TestReadOfCut(t *testing.T) {
	for _, p := range some(t)[:10] {
		s := spelt(p)
		for n := 0; n < len(s); n += 1 + len(s)/700 {
			reads(t, s[:n], api.ErrEnd)
		}
	}
}

// P18.3: one spelling: what is read of bytes that were turned is spelt as those.
func TestReadOfTurned(t *testing.T) {
	taken := 0
	for seed, p := range some(t) {
		if len(p.Path) > 9 {
			continue
		}
		r := dice(seed)
		for range 200 {
			b := []byte(spelt(p))
			for range 1 + r.roll(2) {
				b[r.roll(len(b))] ^= byte(1 << r.roll(8))
			}
			q, e := proof.Read(string(b))
			if e != api.OK {
				reads(t, string(b), e)
				continue
			}
			taken++
			if s, e := proof.Bytes(q); s != string(b) || e != api.OK {
				t.Fatalf("%q is read, and spelt %q, %d", b, s, e)
			}
		}
	}
	if taken < 1000 {
		t.Errorf("%d taken", taken)
	}
}

// P18.2, P18.3: a proof of which one bit was turned is refused, or no proof of this label.
func TestTurnedProof(t *testing.T) {
	for seed := range 8 {
		r := dice(seed)
		l := r.leaves(8)
		top := sum(l)
		for _, label := range r.some(l)[:3] {
			s := spelt(made(t, l, label))
			for i := range 8 * len(s) {
				b := []byte(s)
				b[i/8] ^= 1 << (i % 8)
				p, e := proof.Read(string(b))
				if e != api.OK {
					continue
				}
				if _, _, e := proof.Check(top, label, p); e == api.OK {
					t.Fatalf("bit %d of %q", i, s)
				}
			}
		}
	}
}
