package node_test

import (
	"crypto/sha256"
	"encoding/binary"
	"math"
	"strings"
	"testing"

	"chirograph/api"
	"chirograph/bits"
	"chirograph/node"
	"chirograph/sha"
)

// of is a label of any bytes.
func of(n byte) api.Label {
	var l api.Label
	for i := range l {
		l[i] = n * byte(i+1)
	}
	return l
}

// framed is a tag and texts, each behind its length, by the library.
func framed(tag byte, texts ...string) string {
	b := []byte{tag}
	for _, s := range texts {
		b = append(binary.BigEndian.AppendUint32(b, uint32(len(s))), s...)
	}
	return string(b)
}

// wide is a number's eight bytes, by the library.
func wide(n int) string {
	return string(binary.BigEndian.AppendUint64(nil, uint64(n)))
}

// text is an item's, by the chapter's words.
func text(x node.Item) string {
	return wide(x.Prefix.Len) + string(x.Prefix.Bits[:]) + string(x.Sum[:]) + wide(x.At)
}

func leafText(l node.Leaf) string {
	return framed(16, string(l.Label[:]), string(l.Value[:]), wide(l.At))
}

func innerText(n node.Inner) string {
	return framed(17, text(n.Left), text(n.Right))
}

// item is one over the labels that begin with n bits of l.
func item(l api.Label, n int, at int) node.Item {
	return node.Item{Prefix: bits.Cut(l, n), Sum: of(l[0] + byte(n) + 3), At: at}
}

// leaves are some that are right.
func leaves() []node.Leaf {
	return []node.Leaf{
		{}, {At: 1}, {Label: of(1)}, {Value: of(1)}, {Label: of(1), Value: of(1), At: 1}, {Label: of(200), Value: of(7), At: 255},
		{Label: of(200), Value: of(7), At: 256}, {Label: of(255), Value: of(255), At: 1 << 30}, {Label: of(3), Value: of(5), At: 1<<30 - 1},
	}
}

// inners are some that are right.
func inners() []node.Inner {
	low, high := api.Label{}, api.Label{0x80}
	near := api.Label{31: 1}
	return []node.Inner{
		{item(low, 1, 0), item(high, 1, 0)},
		{item(low, 256, 3), item(high, 1, 4)},
		{item(low, 1, 4), item(high, 256, 3)},
		{item(low, 256, 1<<30), item(near, 256, 0)},
		{item(of(5), 9, 0), item(of(9), 200, 1<<30)},
		{node.Leaf{}.Item(), node.Leaf{Label: high}.Item()},
		{item(api.Label{0x60}, 4, 7), item(api.Label{0x70}, 256, 7)},
	}
}

// nodes are all of these.
func nodes() []node.Node {
	var all []node.Node
	for _, l := range leaves() {
		all = append(all, l)
	}
	for _, n := range inners() {
		all = append(all, n)
	}
	return all
}

// wrong are epochs that are none.
func wrong() []int {
	return []int{-1, 1<<30 + 1, -1 << 30, 1 << 32, math.MinInt, math.MaxInt}
}

// P15.1: the chapter's example, and the tags.
func TestExample(t *testing.T) {
	n := node.Inner{Left: node.Leaf{}.Item(), Right: node.Leaf{Label: api.Label{0x80}}.Item()}
	if x := n.Item(); x.Prefix != (bits.Prefix{}) || node.Check(n) != api.OK {
		t.Errorf("%v, %d", x, node.Check(n))
	}
	if [...]int{node.Leaves, node.Inners, node.Empties} != [...]int{16, 17, 18} {
		t.Error("tags")
	}
}

// P15.1: the item of any leaf.
func TestLeafItem(t *testing.T) {
	all := leaves()
	for _, at := range wrong() {
		all = append(all, node.Leaf{Label: of(9), Value: of(4), At: at})
	}
	for _, l := range all {
		want := node.Item{Prefix: bits.Prefix{Len: 256, Bits: l.Label}, Sum: sha256.Sum256([]byte(leafText(l))), At: l.At}
		if l.Item() != want {
			t.Errorf("%v: %v instead of %v", l, l.Item(), want)
		}
		if node.LeafBytes(l) != leafText(l) || sha.Sum(node.LeafBytes(l)) != want.Sum {
			t.Errorf("%v: %x", l, node.LeafBytes(l))
		}
	}
}

// odd are any two items: over one another, the wrong way, not good.
func odd() []node.Inner {
	a, b := item(of(3), 7, 5), item(of(200), 90, 6)
	long, short := node.Item{Prefix: bits.Prefix{Len: 300, Bits: of(1)}, At: -1}, node.Item{Prefix: bits.Prefix{Len: -4, Bits: of(1)}, At: -2}
	return []node.Inner{
		{}, {a, a}, {b, a}, {item(of(3), 0, 1), b}, {long, short}, {short, long}, {a, long}, {short, b},
		{node.Item{At: math.MinInt}, node.Item{At: math.MaxInt}}, {node.Item{At: 1 << 31}, node.Item{Prefix: bits.Prefix{Len: 1 << 33, Bits: of(2)}}},
	}
}

// P15.1: the item of an inner node of any two items.
func TestInnerItem(t *testing.T) {
	for _, n := range append(inners(), odd()...) {
		a, b := n.Left.Prefix.Bits, n.Right.Prefix.Bits
		want := node.Item{Prefix: bits.Cut(a, bits.Common(a, b)), Sum: sha256.Sum256([]byte(innerText(n))), At: max(n.Left.At, n.Right.At)}
		if n.Item() != want {
			t.Errorf("%v: %v instead of %v", n, n.Item(), want)
		}
		if node.InnerBytes(n) != innerText(n) || sha.Sum(node.InnerBytes(n)) != want.Sum {
			t.Errorf("%v: %x", n, node.InnerBytes(n))
		}
	}
	// The prefix has what is common, and no bit of those behind it.
	x := node.Inner{Left: item(api.Label{0xa0, 0x0f}, 16, 2), Right: item(api.Label{0xa0, 0x80}, 9, 1)}.Item()
	if x.Prefix != (bits.Prefix{Len: 8, Bits: api.Label{0xa0}}) || x.At != 2 {
		t.Errorf("%v", x)
	}
}

// P15.1: the sum of no leaves.
func TestEmpty(t *testing.T) {
	if node.Empty() != sha256.Sum256([]byte{18}) {
		t.Errorf("%x", node.Empty())
	}
}

// P15.1: which items are good.
func TestGood(t *testing.T) {
	for _, n := range []int{0, 1, 8, 255, 256} {
		for _, at := range []int{0, 1, 1<<30 - 1, 1 << 30} {
			if !node.Good(item(of(7), n, at)) {
				t.Errorf("%d bits, epoch %d", n, at)
			}
		}
		for _, at := range wrong() {
			if node.Good(item(of(7), n, at)) {
				t.Errorf("%d bits, epoch %d", n, at)
			}
		}
	}
	for _, p := range bad() {
		if node.Good(node.Item{Prefix: p}) || node.Good(node.Item{Prefix: p, At: -1}) {
			t.Errorf("%v", p)
		}
	}
}

// bad are prefixes that aren't in form.
func bad() []bits.Prefix {
	return []bits.Prefix{{Len: -1}, {Len: 257}, {Len: math.MaxInt}, {Len: math.MinInt}, {Len: 0, Bits: api.Label{0x80}}, {Len: 8, Bits: api.Label{1: 0x80}}, {Len: 255, Bits: api.Label{31: 1}}}
}

func checks(t *testing.T, n node.Node, want api.Errno) {
	t.Helper()
	if e := node.Check(n); e != want {
		t.Errorf("Check of %v: %d instead of %d", n, e, want)
	}
	if want == api.OK {
		return
	}
	if s, e := node.Bytes(n); s != "" || e != want {
		t.Errorf("Bytes of %v: %x, %d instead of %d", n, s, e, want)
	}
}

// P15.1, P15.2: what is right, and each error.
func TestCheck(t *testing.T) {
	for _, n := range nodes() {
		checks(t, n, api.OK)
	}
	checks(t, nil, api.ErrForm)
	for _, at := range wrong() {
		checks(t, node.Leaf{At: at}, api.ErrArg)
		checks(t, node.Leaf{Label: of(3), Value: of(4), At: at}, api.ErrArg)
	}
	low, high := item(api.Label{0x20}, 3, 1), item(api.Label{0xc0}, 256, 2)
	checks(t, node.Inner{Left: low, Right: high}, api.OK)
	checks(t, node.Inner{Left: high, Right: low}, api.ErrForm)
	checks(t, node.Inner{}, api.ErrForm)
	for n := range 257 {
		over := item(high.Prefix.Bits, n, 1)
		checks(t, node.Inner{Left: over, Right: high}, api.ErrForm)
		checks(t, node.Inner{Left: high, Right: over}, api.ErrForm)
		checks(t, node.Inner{Left: over, Right: over}, api.ErrForm)
	}
	for n := range 256 {
		// They part at bit n: one bit shorter, and each is over both.
		a, _ := bits.Cut(of(77), n).Next(0)
		b, _ := bits.Cut(of(77), n).Next(1)
		checks(t, node.Inner{Left: node.Item{Prefix: a}, Right: node.Item{Prefix: b}}, api.OK)
		checks(t, node.Inner{Left: node.Item{Prefix: b}, Right: node.Item{Prefix: a}}, api.ErrForm)
		checks(t, node.Inner{Left: node.Item{Prefix: bits.Cut(of(77), n)}, Right: node.Item{Prefix: b}}, api.ErrForm)
		checks(t, node.Inner{Left: node.Item{Prefix: a}, Right: node.Item{Prefix: bits.Cut(of(77), n)}}, api.ErrForm)
	}
}

// P15.1, P15.2: an item that isn't good is named ahead of two that don't part.
func TestCheckOfBadItems(t *testing.T) {
	low, high := item(api.Label{}, 1, 1), item(api.Label{0x80}, 1, 2)
	for _, p := range bad() {
		x := node.Item{Prefix: p}
		for _, y := range []node.Item{low, high, x} {
			checks(t, node.Inner{Left: x, Right: y}, api.ErrArg)
			checks(t, node.Inner{Left: y, Right: x}, api.ErrArg)
		}
	}
	for _, at := range wrong() {
		early, late := item(api.Label{}, 1, at), item(api.Label{0x80}, 1, at)
		checks(t, node.Inner{Left: early, Right: high}, api.ErrArg)
		checks(t, node.Inner{Left: low, Right: late}, api.ErrArg)
		checks(t, node.Inner{Left: late, Right: low}, api.ErrArg)
		checks(t, node.Inner{Left: early, Right: early}, api.ErrArg)
	}
}

// number is a number's bytes, by layer 2's words.
func number(n int) string {
	s := strings.TrimLeft(wide(n), "\x00")
	return string([]byte{byte(len(s))}) + s
}

func itemBytes(x node.Item) string {
	return number(x.Prefix.Len) + string(x.Prefix.Bits[:]) + string(x.Sum[:]) + number(x.At)
}

func leafBytes(l node.Leaf) string {
	return "\x00" + string(l.Label[:]) + string(l.Value[:]) + number(l.At)
}

func innerBytes(n node.Inner) string {
	return "\x01" + itemBytes(n.Left) + itemBytes(n.Right)
}

// P15.2: the bytes, by the chapter's words, and back.
func TestBytesAndRead(t *testing.T) {
	for _, n := range nodes() {
		var want string
		if l, ok := n.(node.Leaf); ok {
			want = leafBytes(l)
		} else {
			want = innerBytes(n.(node.Inner))
		}
		s, e := node.Bytes(n)
		if s != want || e != api.OK {
			t.Errorf("%v: %x, %d instead of %x", n, s, e, want)
		}
		if back, e := node.Read(s); back != n || e != api.OK {
			t.Errorf("%x: %v, %d instead of %v", s, back, e, n)
		}
	}
}

func refuses(t *testing.T, s string, want api.Errno) {
	t.Helper()
	if n, e := node.Read(s); n != nil || e != want {
		t.Errorf("%.200x: %v, %d instead of %d", s, n, e, want)
	}
}

// P15.2: bytes that are wanting, and bytes too many.
func TestReadCutOff(t *testing.T) {
	for _, n := range nodes() {
		s, _ := node.Bytes(n)
		for i := range s {
			refuses(t, s[:i], api.ErrEnd)
		}
		refuses(t, s+"\x00", api.ErrForm)
		refuses(t, s+s, api.ErrForm)
		refuses(t, s+strings.Repeat("x", api.MaxText-len(s)), api.ErrForm)
		refuses(t, s+strings.Repeat("x", api.MaxText+1-len(s)), api.ErrBig)
	}
}

// P15.2: what isn't spelled so, and what is spelled so but isn't right.
func TestReadRefuses(t *testing.T) {
	sixty := strings.Repeat("\x05", 64)
	refuses(t, "\x02"+sixty+"\x00", api.ErrText)
	refuses(t, "\xff", api.ErrText)
	refuses(t, "\x00"+sixty+"\x01\x00", api.ErrText)
	refuses(t, "\x00"+sixty+"\x02\x00\x01", api.ErrText)
	refuses(t, "\x00"+sixty+"\x09", api.ErrText)
	refuses(t, "\x00"+sixty+"\x08\x80\x00\x00\x00\x00\x00\x00\x00", api.ErrText)
	refuses(t, "\x00"+sixty+number(1<<30+1), api.ErrArg)
	refuses(t, "\x00"+sixty+number(math.MaxInt), api.ErrArg)
	// What was read wrongly is told ahead of what isn't right.
	refuses(t, "\x00"+sixty+number(1<<30+1)+"x", api.ErrForm)
	low, high := item(api.Label{0x20}, 3, 1), item(api.Label{0xc0}, 256, 2)
	for _, n := range append(odd(), node.Inner{Left: high, Right: low}, node.Inner{Left: low, Right: low}) {
		if min(n.Left.At, n.Right.At, n.Left.Prefix.Len, n.Right.Prefix.Len) >= 0 {
			refuses(t, innerBytes(n), node.Check(n))
			refuses(t, innerBytes(n)+"\x00", api.ErrForm)
		}
	}
	for _, at := range wrong() {
		if at >= 0 {
			refuses(t, innerBytes(node.Inner{Left: item(api.Label{}, 1, at), Right: high}), api.ErrArg)
			refuses(t, innerBytes(node.Inner{Left: low, Right: item(api.Label{0x80}, 1, at)}), api.ErrArg)
		}
	}
	for _, p := range bad() {
		if p.Len >= 0 {
			refuses(t, innerBytes(node.Inner{Left: node.Item{Prefix: p}, Right: high}), api.ErrArg)
			refuses(t, innerBytes(node.Inner{Left: low, Right: node.Item{Prefix: p}}), api.ErrArg)
		}
	}
	refuses(t, innerBytes(node.Inner{Left: high, Right: low}), api.ErrForm)
	refuses(t, strings.Replace(innerBytes(node.Inner{Left: low, Right: high}), "\x01\x03", "\x02\x00\x03", 1), api.ErrText)
}

// P15.2: of bytes that were turned: what is taken is spelled in this one way.
func TestOneSpelling(t *testing.T) {
	taken := 0
	for _, n := range nodes() {
		s, _ := node.Bytes(n)
		for i := range s {
			for _, turn := range []byte{1, 2, 3, 4, 0x10, 0x40, 0x80, 0xff} {
				b := []byte(s)
				b[i] ^= turn
				x, e := node.Read(string(b))
				if e != api.OK {
					if x != nil {
						t.Errorf("%x: %v beside %d", b, x, e)
					}
					continue
				}
				taken++
				if back, e := node.Bytes(x); back != string(b) || e != api.OK || node.Check(x) != api.OK {
					t.Errorf("%x: %v, %x, %d", b, x, back, e)
				}
			}
		}
	}
	if taken < 1000 {
		t.Errorf("%d taken", taken)
	}
}

// P15.1: which node it is, right or not.
func TestAs(t *testing.T) {
	all := append(nodes(), node.Leaf{Label: of(2), At: -1})
	for _, n := range odd() {
		all = append(all, n)
	}
	for _, n := range all {
		l, leaf := node.AsLeaf(n)
		x, inner := node.AsInner(n)
		if leaf == inner || leaf && (n != l || x != (node.Inner{})) || inner && (n != x || l != (node.Leaf{})) {
			t.Errorf("%v: %v, %v, %v, %v", n, l, leaf, x, inner)
		}
	}
	l, leaf := node.AsLeaf(nil)
	x, inner := node.AsInner(nil)
	if leaf || inner || l != (node.Leaf{}) || x != (node.Inner{}) {
		t.Errorf("nil: %v, %v", l, x)
	}
}

// P15.3: unlike nodes, right or not, and no leaves at all, are unlike bytes that are summed.
func TestUnlike(t *testing.T) {
	seen := map[string]node.Node{"\x12": nil}
	sums := map[api.Label]node.Node{node.Empty(): nil}
	once := func(n node.Node, s string) {
		t.Helper()
		if other, is := seen[s]; is && other != n {
			t.Errorf("%v and %v are alike", n, other)
		}
		if other, is := sums[n.Item().Sum]; is && other != n {
			t.Errorf("%v and %v have one sum", n, other)
		}
		seen[s], sums[n.Item().Sum] = n, n
	}
	for _, l := range leaves() {
		once(l, node.LeafBytes(l))
		for i := range 256 {
			a, b := l, l
			a.Label[i/8] ^= 1 << (i % 8)
			b.Value[i/8] ^= 1 << (i % 8)
			once(a, node.LeafBytes(a))
			once(b, node.LeafBytes(b))
		}
		for i := range 64 {
			a := l
			a.At ^= 1 << i
			once(a, node.LeafBytes(a))
		}
	}
	for _, n := range append(inners(), odd()...) {
		once(n, node.InnerBytes(n))
		other := node.Inner{Left: n.Right, Right: n.Left}
		once(other, node.InnerBytes(other))
		for i := range 256 {
			a, b, c, d := n, n, n, n
			a.Left.Prefix.Bits[i/8] ^= 1 << (i % 8)
			b.Right.Prefix.Bits[i/8] ^= 1 << (i % 8)
			c.Left.Sum[i/8] ^= 1 << (i % 8)
			d.Right.Sum[i/8] ^= 1 << (i % 8)
			for _, x := range []node.Inner{a, b, c, d} {
				once(x, node.InnerBytes(x))
			}
		}
		for i := range 64 {
			a, b, c, d := n, n, n, n
			a.Left.At ^= 1 << i
			b.Right.At ^= 1 << i
			c.Left.Prefix.Len ^= 1 << i
			d.Right.Prefix.Len ^= 1 << i
			for _, x := range []node.Inner{a, b, c, d} {
				once(x, node.InnerBytes(x))
			}
		}
	}
}
