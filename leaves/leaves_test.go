package leaves_test

import (
	"maps"
	"math"
	"slices"
	"strings"
	"testing"

	"chirograph/api"
	"chirograph/bits"
	"chirograph/disk"
	"chirograph/leaves"
	"chirograph/level"
	"chirograph/node"
	"chirograph/store"
)

// dice are numbers of all kinds, other ones for each seed.
type dice uint32

func (d *dice) roll(n int) int {
	*d = *d*1664525 + 1013904223
	return int(*d>>8) % n
}

// label is one of a few bytes at the beginning, in the middle and at the end, so that many are near one another.
func (d *dice) label() api.Label {
	ends := [...]byte{0, 1, 0x7f, 0x80, 0xff}
	l := api.Label{0: ends[d.roll(5)], 1: ends[d.roll(5)], 31: ends[d.roll(5)]}
	if d.roll(2) == 0 {
		for i := 2; i < 31; i++ {
			l[i] = 0xff
		}
	}
	return l
}

func (d *dice) leaf() node.Leaf {
	return node.Leaf{Label: d.label(), Value: api.Label{byte(d.roll(200))}, At: d.roll(1 << 20)}
}

// prefix is one of any length.
func (d *dice) prefix() bits.Prefix {
	some := [...]int{0, 1, 7, 8, 9, 16, 240, 248, 249, 255, 256}
	return bits.Cut(d.label(), some[d.roll(len(some))])
}

// options are of stores that flush at each batch, now and then, never.
func options() []store.Options {
	return []store.Options{
		{Mem: 1, Block: 1, Table: 1, Limits: level.Limits{Count: 2, Size: 100}},
		{Mem: 700, Block: 200, Table: 500, Limits: level.Limits{Count: 3, Size: 1500}},
		{Mem: 1 << 20, Block: 1 << 14, Table: 1 << 15, Limits: level.Limits{Count: 100, Size: 1 << 30}},
	}
}

func opened(t *testing.T, d *disk.Disk, o store.Options) *store.Store {
	t.Helper()
	s, e := store.Open(d, o)
	if e != api.OK {
		t.Fatalf("Open: %d", e)
	}
	return s
}

// still is a store that flushes when it is asked to, alone.
func still(t *testing.T) *store.Store {
	t.Helper()
	return opened(t, disk.New(1<<20), options()[2])
}

func written(t *testing.T, s *store.Store, l ...api.Entry) {
	t.Helper()
	if e := s.Write(l); e != api.OK {
		t.Fatalf("Write: %d", e)
	}
}

func put(t *testing.T, l node.Leaf) api.Entry {
	t.Helper()
	x, e := leaves.Put(l)
	if e != api.OK {
		t.Fatalf("Put: %d", e)
	}
	return x
}

// plain is the leaves that are there, by their labels.
type plain map[api.Label]node.Leaf

// under are those whose labels begin so, by rising labels: each bit is asked.
func (p plain) under(x bits.Prefix) []node.Leaf {
	var l []node.Leaf
	for _, label := range slices.SortedFunc(maps.Keys(p), bits.Order) {
		same := true
		for i := range x.Len {
			same = same && bits.Bit(label, i) == bits.Bit(x.Bits, i)
		}
		if same {
			l = append(l, p[label])
		}
	}
	return l
}

// tree is the item of the tree of leaves, one of them at least: each bit is asked of each leaf.
func tree(l []node.Leaf) node.Item {
	if len(l) == 1 {
		return l[0].Item()
	}
	for n := range 256 {
		var sides [2][]node.Leaf
		for _, x := range l {
			bit := bits.Bit(x.Label, n)
			sides[bit] = append(sides[bit], x)
		}
		if len(sides[0]) > 0 && len(sides[1]) > 0 {
			return node.Inner{Left: tree(sides[0]), Right: tree(sides[1])}.Item()
		}
	}
	return node.Item{}
}

func (p plain) top() api.Label {
	if len(p) == 0 {
		return node.Empty()
	}
	return tree(slices.Collect(maps.Values(p))).Sum
}

// gets asks what Get answers.
func gets(t *testing.T, s *store.Store, l api.Label, want node.Leaf, is bool, errno api.Errno) {
	t.Helper()
	if x, ok, e := leaves.Get(s, l); x != want || ok != is || e != errno {
		t.Errorf("Get of %x: %v, %v, %d instead of %v, %v, %d", l, x, ok, e, want, is, errno)
	}
}

// alls asks what All answers.
func alls(t *testing.T, s *store.Store, errno api.Errno, want ...node.Leaf) {
	t.Helper()
	if l, e := leaves.All(s); !slices.Equal(l, want) || e != errno {
		t.Errorf("All: %v, %d instead of %v, %d", l, e, want, errno)
	}
}

// unders asks what Under answers.
func unders(t *testing.T, s *store.Store, p bits.Prefix, errno api.Errno, want ...node.Leaf) {
	t.Helper()
	if l, e := leaves.Under(s, p); !slices.Equal(l, want) || e != errno {
		t.Errorf("Under %v: %v, %d instead of %v, %d", p, l, e, want, errno)
	}
}

// tops asks what Top answers.
func tops(t *testing.T, s *store.Store, errno api.Errno, want api.Label) {
	t.Helper()
	if l, e := leaves.Top(s); l != want || e != errno {
		t.Errorf("Top: %x, %d instead of %x, %d", l, e, want, errno)
	}
}

// has asks all that a store of these leaves alone answers.
func (p plain) has(t *testing.T, s *store.Store, r *dice) {
	t.Helper()
	alls(t, s, api.OK, p.under(bits.Prefix{})...)
	tops(t, s, api.OK, p.top())
	for range 20 {
		x := r.prefix()
		unders(t, s, x, api.OK, p.under(x)...)
		l := r.label()
		leaf, is := p[l]
		gets(t, s, l, leaf, is, api.OK)
	}
	for l, leaf := range p {
		gets(t, s, l, leaf, true, api.OK)
	}
}

// P17.1, P17.2: the chapter's example.
func TestExample(t *testing.T) {
	s := still(t)
	l := node.Leaf{Label: api.Label{0x40, 31: 7}, Value: api.Label{9}, At: 3}
	tops(t, s, api.OK, node.Empty())
	written(t, s, put(t, l))
	gets(t, s, l.Label, l, true, api.OK)
	tops(t, s, api.OK, l.Item().Sum)
	written(t, s, leaves.Gone(l.Label))
	gets(t, s, l.Label, node.Leaf{}, false, api.OK)
	tops(t, s, api.OK, node.Empty())
	alls(t, s, api.OK)
	unders(t, s, bits.Prefix{}, api.OK)
}

// P17.1: a leaf's entry, by the chapter's words.
func TestEntry(t *testing.T) {
	label, value := strings.Repeat("\xa0\x0e", 16), strings.Repeat("\x00\xff", 16)
	var l node.Leaf
	copy(l.Label[:], label)
	copy(l.Value[:], value)
	l.At = 300
	if leaves.First != "n" || leaves.Key(l.Label) != "n"+label || leaves.Key(api.Label{}) != "n"+strings.Repeat("\x00", 32) {
		t.Errorf("%q, %q", leaves.First, leaves.Key(l.Label))
	}
	if x := put(t, l); x != (api.Entry{Key: "n" + label, Value: "\x00" + label + value + "\x02\x01\x2c"}) {
		t.Errorf("Put: %v", x)
	}
	if x := leaves.Gone(l.Label); x != (api.Entry{Key: "n" + label, Gone: true}) {
		t.Errorf("Gone: %v", x)
	}
	for _, at := range []int{0, 1, 1<<30 - 1, 1 << 30} {
		l.At = at
		s := still(t)
		written(t, s, put(t, l))
		gets(t, s, l.Label, l, true, api.OK)
	}
	for _, at := range []int{-1, 1<<30 + 1, math.MinInt, math.MaxInt} {
		l.At = at
		if x, e := leaves.Put(l); x != (api.Entry{}) || e != api.ErrArg {
			t.Errorf("Put: %v, %d", x, e)
		}
	}
}

// play is a store, its disk, its options, and what should be there.
type play struct {
	d *disk.Disk
	s *store.Store
	o store.Options
	p plain
}

// batch writes some leaves, new ones and others in the place of those that there are, and takes some away, of which not all are there.
func (g *play) batch(t *testing.T, r *dice) {
	t.Helper()
	these := map[api.Label]api.Entry{}
	for range 1 + r.roll(8) {
		x := r.leaf()
		if r.roll(3) == 0 {
			these[x.Label] = leaves.Gone(x.Label)
			delete(g.p, x.Label)
		} else {
			these[x.Label] = put(t, x)
			g.p[x.Label] = x
		}
	}
	var l []api.Entry
	for _, label := range slices.SortedFunc(maps.Keys(these), bits.Order) {
		l = append(l, these[label])
	}
	written(t, g.s, l...)
}

// turn does what changes nothing that there is.
func (g *play) turn(t *testing.T, r *dice) {
	t.Helper()
	e := api.OK
	switch r.roll(5) {
	case 0:
		e = g.s.Flush()
	case 1:
		_, e = g.s.Step()
	case 2:
		e = g.s.Whole()
	case 3:
		g.d.Crash([]int{r.roll(50)})
		g.s, e = store.Open(g.d, g.o)
	}
	if e != api.OK {
		t.Fatalf("%d", e)
	}
}

// P17.1, P17.2: whatever was written, flushed, put together, opened again: what was written last is there, and Top is its tree.
func TestCalls(t *testing.T) {
	for seed := range 60 {
		r := dice(seed)
		d := disk.New(1 << 20)
		o := options()[seed%3]
		g := &play{d: d, s: opened(t, d, o), o: o, p: plain{}}
		for range 15 {
			g.batch(t, &r)
			g.turn(t, &r)
			g.p.has(t, g.s, &r)
		}
	}
}

// P17.2: in whatever order leaves came, and whatever stood there ahead, they have one sum.
func TestTopOfAnyWay(t *testing.T) {
	for seed := range 20 {
		r := dice(seed)
		p := plain{}
		for range r.roll(30) {
			x := r.leaf()
			p[x.Label] = x
		}
		for _, o := range options() {
			s := opened(t, disk.New(1<<20), o)
			for range 10 {
				written(t, s, put(t, r.leaf()))
			}
			l, _ := leaves.All(s)
			for _, x := range l {
				written(t, s, leaves.Gone(x.Label))
			}
			for _, x := range p { // in the order of a map: any
				written(t, s, put(t, x))
			}
			tops(t, s, api.OK, p.top())
		}
	}
}

// P17.1: each beginning of labels at the edges, where bytes run over.
func TestUnderEdges(t *testing.T) {
	high, low := api.Label{}, api.Label{}
	for i := range high {
		high[i] = 0xff
	}
	middle := api.Label{0x7f, 0xff, 0xff, 0x80}
	near := api.Label{0x7f, 0xff, 0xff, 0x7f}
	p := plain{}
	s := still(t)
	for _, l := range []api.Label{high, low, middle, near, {31: 1}, {0x80}, {0xff}, {0x7f}} {
		p[l] = node.Leaf{Label: l, At: int(l[0])}
		written(t, s, put(t, p[l]))
	}
	for range 2 {
		for _, l := range []api.Label{high, low, middle, near, {0x01}} {
			for n := range 257 {
				x := bits.Cut(l, n)
				unders(t, s, x, api.OK, p.under(x)...)
			}
		}
		if e := s.Whole(); e != api.OK {
			t.Fatalf("Whole: %d", e)
		}
	}
}

// wrong are prefixes that aren't in form.
func wrong() []bits.Prefix {
	return []bits.Prefix{{Len: -1}, {Len: 257}, {Len: math.MinInt}, {Len: math.MaxInt}, {Bits: api.Label{0x80}}, {Len: 8, Bits: api.Label{1: 0x80}}, {Len: 255, Bits: api.Label{31: 1}}}
}

// P17.1: a prefix that isn't in form, of a dead disk, too.
func TestWrongPrefix(t *testing.T) {
	d := disk.New(1 << 20)
	s := opened(t, d, options()[2])
	written(t, s, put(t, node.Leaf{At: 1}))
	for range 2 {
		for _, p := range wrong() {
			unders(t, s, p, api.ErrArg)
		}
		d.Arm(0)
		d.Append("x", "")
	}
}

// P17.1: the store's errors.
func TestStoreErrors(t *testing.T) {
	d := disk.New(1 << 20)
	o := options()[2]
	s := opened(t, d, o)
	l := node.Leaf{Label: api.Label{7}, At: 1}
	written(t, s, put(t, l))
	if e := s.Flush(); e != api.OK {
		t.Fatalf("Flush: %d", e)
	}
	tables := slices.DeleteFunc(d.List(), func(name string) bool { return !strings.HasPrefix(name, "tab-") })
	if len(tables) != 1 || d.Spoil(tables[0], 12, 1) != api.OK {
		t.Fatalf("%q", tables)
	}
	s = opened(t, d, o)
	gets(t, s, l.Label, node.Leaf{}, false, api.ErrSum)
	alls(t, s, api.ErrSum)
	unders(t, s, bits.Cut(l.Label, 9), api.ErrSum)
	tops(t, s, api.ErrSum, api.Label{})
	d.Arm(0)
	d.Append("x", "")
	gets(t, s, l.Label, node.Leaf{}, false, api.ErrDead)
	alls(t, s, api.ErrDead)
	unders(t, s, bits.Cut(l.Label, 256), api.ErrDead)
	tops(t, s, api.ErrDead, api.Label{})
}

// others are entries of keys that don't begin with n.
func others() []api.Entry {
	return []api.Entry{{Key: "m"}, {Key: "m\xff" + strings.Repeat("\xff", 98), Value: "x"}, {Key: "o"}, {Key: "o\x00", Value: "y"}, {Key: "N", Value: "z"}, {Key: "\x00"}, {Key: "\xff"}}
}

// P17.1, P17.2: what else is in the store is nobody's leaf.
func TestOthers(t *testing.T) {
	s := still(t)
	written(t, s, others()...)
	alls(t, s, api.OK)
	tops(t, s, api.OK, node.Empty())
	high := api.Label{}
	for i := range high {
		high[i] = 0xff
	}
	a, b := node.Leaf{At: 1}, node.Leaf{Label: high, At: 2}
	written(t, s, put(t, a), put(t, b))
	alls(t, s, api.OK, a, b)
	unders(t, s, bits.Cut(a.Label, 1), api.OK, a)
	unders(t, s, bits.Cut(b.Label, 1), api.OK, b)
	unders(t, s, bits.Cut(b.Label, 256), api.OK, b)
	tops(t, s, api.OK, plain{a.Label: a, b.Label: b}.top())
}

// spoilt is an entry that is no leaf's, and its error.
type spoilt struct {
	x    api.Entry
	want api.Errno
}

// noLeaves are such of keys that begin with n and these bytes, which are a label's or not.
func noLeaves(t *testing.T, rest string) []spoilt {
	t.Helper()
	var l api.Label
	copy(l[:], rest)
	other := l
	other[31] ^= 1
	right := put(t, node.Leaf{Label: l, At: 300}).Value
	inner, _ := node.Bytes(node.Inner{Left: node.Leaf{}.Item(), Right: node.Leaf{Label: api.Label{0x80}}.Item()})
	all := []spoilt{
		{x: api.Entry{Value: ""}, want: api.ErrEnd},
		{x: api.Entry{Value: "x"}, want: api.ErrText},
		{x: api.Entry{Value: right[:len(right)-1]}, want: api.ErrEnd},
		{x: api.Entry{Value: right + "x"}, want: api.ErrForm},
		{x: api.Entry{Value: "\x02" + right[1:]}, want: api.ErrText},
		{x: api.Entry{Value: right[:65] + "\x04\xff\xff\xff\xff"}, want: api.ErrArg},
		{x: api.Entry{Value: inner}, want: api.ErrForm},
		{x: put(t, node.Leaf{Label: other, At: 1}), want: api.ErrForm},
	}
	if len(rest) != 32 {
		all = append(all, spoilt{x: api.Entry{Value: right}, want: api.ErrForm})
	}
	for i := range all {
		all[i].x.Key = "n" + rest
	}
	return all
}

// P17.1: entries that are no leaves, at the keys of labels.
func TestNoLeaf(t *testing.T) {
	l := api.Label{0x80, 5, 31: 9}
	a, b := node.Leaf{Label: api.Label{0x40}, At: 1}, node.Leaf{Label: api.Label{0xc0}, At: 1}
	for _, x := range noLeaves(t, string(l[:])) {
		s := still(t)
		written(t, s, x.x, put(t, a), put(t, b))
		gets(t, s, l, node.Leaf{}, false, x.want)
		gets(t, s, a.Label, a, true, api.OK)
		alls(t, s, x.want)
		tops(t, s, x.want, api.Label{})
		for _, n := range []int{0, 1, 2, 8, 9, 17, 255, 256} {
			unders(t, s, bits.Cut(l, n), x.want)
		}
		unders(t, s, bits.Cut(a.Label, 1), api.OK, a)
		unders(t, s, bits.Cut(b.Label, 2), api.OK, b)
		written(t, s, leaves.Gone(l))
		alls(t, s, api.OK, a, b)
	}
}

// P17.1: an inner node is no leaf at the label of noughts either.
func TestInnerOfNoughts(t *testing.T) {
	for _, x := range noLeaves(t, strings.Repeat("\x00", 32)) {
		s := still(t)
		written(t, s, x.x)
		gets(t, s, api.Label{}, node.Leaf{}, false, x.want)
		alls(t, s, x.want)
		unders(t, s, bits.Cut(api.Label{}, 256), x.want)
	}
}

// P17.1: entries at keys that begin with n, but are no label's.
func TestNoLabel(t *testing.T) {
	for _, rest := range []string{"", "\x00", "\x80\x80", strings.Repeat("\x80", 31), strings.Repeat("\x80", 33), strings.Repeat("\xff", 99)} {
		for _, x := range noLeaves(t, rest) {
			s := still(t)
			written(t, s, x.x)
			alls(t, s, x.want)
			tops(t, s, x.want, api.Label{})
			unders(t, s, bits.Prefix{}, x.want)
			if rest == "" {
				continue
			}
			var l api.Label
			copy(l[:], rest)
			for n := range 8*min(len(rest), 32) + 1 {
				unders(t, s, bits.Cut(l, n), x.want)
			}
			l[0] ^= 0x80
			unders(t, s, bits.Cut(l, 1), api.OK)
		}
	}
}

// P17.1: the first one by rising keys is told.
func TestFirstOfNoLeaves(t *testing.T) {
	s := still(t)
	written(t, s, api.Entry{Key: leaves.Key(api.Label{0x90}), Value: ""}, api.Entry{Key: leaves.Key(api.Label{0x80}), Value: "x"}, put(t, node.Leaf{}))
	alls(t, s, api.ErrText)
	tops(t, s, api.ErrText, api.Label{})
	unders(t, s, bits.Cut(api.Label{0x80}, 1), api.ErrText)
	unders(t, s, bits.Cut(api.Label{0x90}, 4), api.ErrEnd)
	unders(t, s, bits.Cut(api.Label{}, 1), api.OK, node.Leaf{})
}

// P17.2: a tree may have 2000 leaves.
func TestMany(t *testing.T) {
	s := still(t)
	p := plain{}
	for i := range 2001 {
		l := node.Leaf{Label: api.Label{byte(i * 89), byte(i >> 8), byte(i)}, At: i}
		if i == 2000 {
			tops(t, s, api.OK, p.top())
		}
		written(t, s, put(t, l))
		p[l.Label] = l
	}
	tops(t, s, api.ErrBig, api.Label{})
	alls(t, s, api.OK, p.under(bits.Prefix{})...)
	written(t, s, leaves.Gone(api.Label{}))
	delete(p, api.Label{})
	tops(t, s, api.OK, p.top())
}

// P17.1: answers are the caller's alone (K3), and the same each time (K4).
func TestMemory(t *testing.T) {
	s := still(t)
	a, b := node.Leaf{At: 1}, node.Leaf{Label: api.Label{0x80}, At: 2}
	written(t, s, put(t, a), put(t, b))
	for range 2 {
		l, _ := leaves.All(s)
		clear(l)
		l, _ = leaves.Under(s, bits.Prefix{})
		clear(l)
		alls(t, s, api.OK, a, b)
	}
}
