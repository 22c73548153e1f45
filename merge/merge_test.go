package merge_test

import (
	"math"
	"slices"
	"strings"
	"testing"
	"unsafe"

	"chirograph/api"
	"chirograph/merge"
)

// dice are numbers of all kinds, other ones for each seed.
type dice uint32

func (d *dice) roll(n int) int {
	*d = *d*1664525 + 1013904223
	return int(*d>>8) % n
}

// word is a text of n bytes of a few kinds.
func (d *dice) word(n int) string {
	b := make([]byte, n)
	for i := range b {
		b[i] = "ab\x00\xff"[d.roll(4)]
	}
	return string(b)
}

// entry is any one, of a key of up to n bytes: no block need have it.
func (d *dice) entry(n int) api.Entry {
	return api.Entry{Key: d.word(d.roll(n + 1)), Value: d.word(d.roll(5)), Gone: d.roll(3) == 0}
}

// list is up to n entries of rising keys.
func (d *dice) list(n int) []api.Entry {
	var l []api.Entry
	for range d.roll(n + 1) {
		l = append(l, d.entry(3))
	}
	slices.SortFunc(l, func(a, b api.Entry) int { return strings.Compare(a.Key, b.Key) })
	return slices.CompactFunc(l, func(a, b api.Entry) bool { return a.Key == b.Key })
}

func there(key, value string) api.Entry { return api.Entry{Key: key, Value: value} }

func gone(key string) api.Entry { return api.Entry{Key: key, Gone: true} }

// cost is by the chapter's words.
func cost(x api.Entry) int { return len(x.Key) + len(x.Value) + 8 }

// risen are the entries of a map, by rising keys.
func risen(all map[string]api.Entry) []api.Entry {
	var l []api.Entry
	for _, x := range all {
		l = append(l, x)
	}
	slices.SortFunc(l, func(a, b api.Entry) int { return strings.Compare(a.Key, b.Key) })
	return l
}

// merged is what Lists answers, by the chapter's words.
func merged(lists [][]api.Entry, drop bool) []api.Entry {
	all := map[string]api.Entry{}
	for _, l := range slices.Backward(lists) {
		for _, x := range l {
			all[x.Key] = x
		}
	}
	return slices.DeleteFunc(risen(all), func(x api.Entry) bool { return drop && x.Gone })
}

// merges asks what Lists answers.
func merges(t *testing.T, lists [][]api.Entry, drop bool, want ...api.Entry) {
	t.Helper()
	if l := merge.Lists(lists, drop); !slices.Equal(l, want) {
		t.Errorf("%v, %v: %v instead of %v", lists, drop, l, want)
	}
}

// P12.1: the chapter's example, and the edges.
func TestLists(t *testing.T) {
	a, b := []api.Entry{there("b", "1"), gone("c")}, []api.Entry{there("a", "2"), there("b", "3"), there("c", "4")}
	type lists = [][]api.Entry
	merges(t, lists{a, b}, false, there("a", "2"), there("b", "1"), gone("c"))
	merges(t, lists{a, b}, true, there("a", "2"), there("b", "1"))
	merges(t, lists{b, a}, false, b...)
	merges(t, lists{b, a}, true, b...)
	for _, drop := range []bool{false, true} {
		merges(t, nil, drop)
		merges(t, lists{}, drop)
		merges(t, lists{nil, {}, nil}, drop)
		merges(t, lists{b}, drop, b...)
		merges(t, lists{nil, b, {}}, drop, b...)
		merges(t, lists{b, b, b}, drop, b...)
		merges(t, lists{{there("", "x")}, {there("", "y"), there("\x00", "z")}}, drop, there("", "x"), there("\x00", "z"))
		merges(t, lists{{there("z", "x")}, {there("\x80", "y")}}, drop, there("z", "x"), there("\x80", "y"))
		merges(t, lists{{there("ab", "x")}, {there("a", "y"), there("b", "z")}}, drop, there("a", "y"), there("ab", "x"), there("b", "z"))
	}
	// What is Gone hides what is older, whether it is dropped or not, but nothing that is newer.
	merges(t, lists{{gone("a")}, {there("a", "1")}, {there("a", "2")}}, false, gone("a"))
	merges(t, lists{{gone("a")}, {there("a", "1")}, {there("a", "2")}}, true)
	merges(t, lists{{there("a", "1")}, {gone("a")}, {there("a", "2")}}, true, there("a", "1"))
	merges(t, lists{{gone("a")}}, false, gone("a"))
	merges(t, lists{{gone("a")}}, true)
	// Any entries: as they are.
	odd := api.Entry{Key: strings.Repeat("k", 1000), Value: strings.Repeat("v", 70000), Gone: true}
	merges(t, lists{{odd}, {there(odd.Key, "x")}}, false, odd)
	merges(t, lists{{odd}, {there(odd.Key, "x")}}, true)
}

// P12.1: of any lists of rising keys.
func TestListsAny(t *testing.T) {
	for seed := range 5000 {
		r := dice(seed)
		var lists [][]api.Entry
		for range r.roll(9) {
			lists = append(lists, r.list(1+r.roll(30)))
		}
		for _, drop := range []bool{false, true} {
			merges(t, lists, drop, merged(lists, drop)...)
		}
		if t.Failed() {
			return
		}
	}
}

// P12.1: many lists, and long ones.
func TestListsMany(t *testing.T) {
	r := dice(1)
	var lists [][]api.Entry
	for range 3000 {
		lists = append(lists, r.list(20))
	}
	merges(t, lists, false, merged(lists, false)...)
	merges(t, make([][]api.Entry, 1000000), false)
	var long [][]api.Entry
	for i := range 4 {
		var l []api.Entry
		for n := i; n < 60000; n += i + 1 {
			l = append(l, there(string([]byte{byte(n >> 8), byte(n)}), r.word(2)))
		}
		long = append(long, l)
	}
	merges(t, long, false, merged(long, false)...)
}

// holds asks what a Mem has.
func holds(t *testing.T, m *merge.Mem, all map[string]api.Entry) {
	t.Helper()
	sum := 0
	for _, x := range all {
		sum += cost(x)
	}
	if l := m.All(); !slices.Equal(l, risen(all)) || m.Size() != sum {
		t.Fatalf("%v, %d instead of %v, %d", l, m.Size(), risen(all), sum)
	}
	for _, x := range all {
		if y, ok := m.Get(x.Key); !ok || x != y {
			t.Fatalf("%q: %v, %v", x.Key, y, ok)
		}
	}
}

// lacks asks that a Mem hasn't a key.
func lacks(t *testing.T, m *merge.Mem, key string) {
	t.Helper()
	if x, ok := m.Get(key); ok || x != (api.Entry{}) {
		t.Fatalf("%q: %v, %v", key, x, ok)
	}
}

// put puts an entry into a Mem and into a map, by the chapter's words.
func put(m *merge.Mem, all map[string]api.Entry, x api.Entry) {
	m.Put(x)
	if x.Gone {
		x.Value = ""
	}
	all[x.Key] = x
}

// P12.2: the zero one, and one entry behind the other.
func TestMem(t *testing.T) {
	var m merge.Mem
	all := map[string]api.Entry{}
	holds(t, &m, all)
	lacks(t, &m, "")
	lacks(t, &m, "a")
	for _, x := range []api.Entry{
		there("b", "xyz"), there("a", ""), there("b", "x"), there("b", "longer"), gone("b"), gone("c"), there("c", "1"), there("", "of the empty key"),
		{Key: "a", Value: "a value", Gone: true}, {Key: "d", Value: "a value", Gone: true}, there("d", "z"), gone("nothing"), gone(""),
		there(strings.Repeat("k", 1000), strings.Repeat("v", 100000)), there("\xff", "\x00"), there("\x00", "\xff"),
	} {
		put(&m, all, x)
		holds(t, &m, all)
		lacks(t, &m, "e")
		lacks(t, &m, x.Key+"\x01")
	}
	for range 2 {
		m.Clear()
		holds(t, &m, nil)
		lacks(t, &m, "a")
		lacks(t, &m, "")
	}
	m.Put(there("b", "y"))
	holds(t, &m, map[string]api.Entry{"b": there("b", "y")})
	lacks(t, &m, "a")
}

// P12.2: the chapter's costs.
func TestSize(t *testing.T) {
	var m merge.Mem
	for _, x := range []struct {
		x    api.Entry
		want int
	}{
		{there("b", "3"), 10}, {there("a", "2"), 20}, {api.Entry{Key: "b", Value: "xyz", Gone: true}, 19}, {there("b", "12345"), 24}, {there("b", ""), 19}, {gone("b"), 19}, {there("", ""), 27},
	} {
		if m.Put(x.x); m.Size() != x.want {
			t.Errorf("%v: %d instead of %d", x.x, m.Size(), x.want)
		}
	}
}

// P12.2: behind any calls.
func TestMemAny(t *testing.T) {
	for seed := range 600 {
		r := dice(seed)
		var m merge.Mem
		all := map[string]api.Entry{}
		for n := range 1 + r.roll(300) {
			put(&m, all, r.entry(5))
			if r.roll(100) == 0 {
				m.Clear()
				clear(all)
			}
			key := r.word(r.roll(6))
			if x, ok := all[key]; ok {
				if y, is := m.Get(key); !is || x != y {
					t.Fatalf("%q: %v, %v", key, y, is)
				}
			} else {
				lacks(t, &m, key)
			}
			if n%20 == 0 {
				holds(t, &m, all)
			}
		}
		holds(t, &m, all)
	}
}

// P12.2: many entries, put by rising keys, by falling ones, in any order; then all of them anew.
func TestMemMany(t *testing.T) {
	const many = 20000
	r := dice(7)
	key := func(n int) string { return string([]byte{byte(n >> 16), byte(n >> 8), byte(n)}) }
	for i, order := range []func(n int) int{
		func(n int) int { return 2 * n },
		func(n int) int { return 2 * (many - n) },
		func(n int) int { return 2 * (n * 7919 % many) },
	} {
		var m merge.Mem
		all := map[string]api.Entry{}
		for range 2 {
			for n := range many {
				x := r.entry(0)
				x.Key = key(order(n))
				put(&m, all, x)
				lacks(t, &m, key(order(n)+1))
			}
			holds(t, &m, all)
		}
		if len(all) != many {
			t.Errorf("%d: %d entries", i, len(all))
		}
	}
}

// split is what Split answers, by the chapter's words.
func split(l []api.Entry, size, most int) [][]api.Entry {
	if size < 1 || most < 1 {
		return nil
	}
	var all [][]api.Entry
	var now []api.Entry
	sum := 0
	for i, x := range l {
		now = append(now, x)
		sum += cost(x)
		if sum >= size || len(now) == most || i == len(l)-1 {
			all = append(all, now)
			now, sum = nil, 0
		}
	}
	return all
}

// splits asks what Split answers: how many entries each list has, and that they are these, in order.
func splits(t *testing.T, l []api.Entry, size, most int, want ...int) {
	t.Helper()
	all := merge.Split(l, size, most)
	if len(all) != len(want) {
		t.Errorf("%d, %d: %v instead of %v", size, most, all, want)
		return
	}
	for i, x := range all {
		if len(x) != want[i] {
			t.Errorf("%d, %d: %v instead of %v", size, most, all, want)
		}
	}
	if joint := slices.Concat(all...); len(want) > 0 && !slices.Equal(joint, l) {
		t.Errorf("%d, %d: %v instead of %v", size, most, joint, l)
	}
}

// P12.3: by costs, by entries, and of wrong numbers.
func TestSplit(t *testing.T) {
	l := []api.Entry{there("a", "2"), there("b", "3"), there("c", "4")} // each costs 10
	splits(t, l, 1, 9, 1, 1, 1)
	splits(t, l, 10, 9, 1, 1, 1)
	splits(t, l, 11, 9, 2, 1)
	splits(t, l, 20, 9, 2, 1)
	splits(t, l, 21, 9, 3)
	splits(t, l, 30, 9, 3)
	splits(t, l, 31, 9, 3)
	splits(t, l, math.MaxInt, math.MaxInt, 3)
	splits(t, l, 1000, 1, 1, 1, 1)
	splits(t, l, 1000, 2, 2, 1)
	splits(t, l, 1000, 3, 3)
	splits(t, l, 20, 1, 1, 1, 1)
	splits(t, l, 11, 2, 2, 1)
	for _, n := range []int{0, -1, math.MinInt} {
		splits(t, l, n, 1)
		splits(t, l, 1, n)
		splits(t, l, n, n)
	}
	splits(t, nil, 1, 1)
	splits(t, []api.Entry{}, 100, 100)
	// Any entries: what is Gone has its value's cost, and none need rise.
	odd := []api.Entry{{Key: "z", Value: "1234567890", Gone: true}, there("", ""), there("", ""), there(strings.Repeat("k", 200), strings.Repeat("v", 5000)), there("a", "")}
	splits(t, odd, 19, 9, 1, 3, 1)
	splits(t, odd, 20, 9, 2, 2, 1)
	splits(t, odd, 5300, 9, 5)
	splits(t, odd, 35, 9, 3, 1, 1)
}

// P12.3: of any lists.
func TestSplitAny(t *testing.T) {
	for seed := range 3000 {
		r := dice(seed)
		var l []api.Entry
		for range r.roll(40) {
			l = append(l, r.entry(6))
		}
		size, most := r.roll(90), r.roll(9)
		var want []int
		for _, x := range split(l, size, most) {
			want = append(want, len(x))
		}
		splits(t, l, size, most, want...)
		if t.Failed() {
			return
		}
	}
}

// P12.1 to P12.3: what is handed in isn't changed or kept, and answers are nobody's but the caller's (K3).
func TestMemory(t *testing.T) {
	whole := []api.Entry{there("a", "1"), there("b", "2"), gone("c"), there("spare", "")}
	twin := slices.Clone(whole)
	l := whole[:3]
	lists := [][]api.Entry{l[:2], l[1:]}
	var m merge.Mem
	for _, x := range l {
		m.Put(x)
	}
	one, two := merge.Lists(lists, false), merge.Lists([][]api.Entry{l}, false)
	parts := merge.Split(l, 1, 1)
	all := m.All()
	if !slices.Equal(whole, twin) || len(lists[0]) != 2 || len(lists[1]) != 2 {
		t.Errorf("%v", whole)
	}
	clear(whole)
	parts[0] = append(parts[0], there("x", "y"))
	all[0] = there("x", "y")
	if !slices.Equal(one, twin[:3]) || !slices.Equal(two, twin[:3]) {
		t.Errorf("Lists: %v, %v", one, two)
	}
	if parts[1][0] != twin[1] || parts[2][0] != twin[2] {
		t.Errorf("Split: %v", parts)
	}
	if !slices.Equal(m.All(), twin[:3]) {
		t.Errorf("All: %v", m.All())
	}
	all = m.All()
	m.Put(there("a", "other"))
	m.Clear()
	if !slices.Equal(all, twin[:3]) {
		t.Errorf("All's answer changes: %v", all)
	}
}

// lent is a text whose bytes can be made others, as those of nobody's memory can't.
func lent(s string) (string, []byte) {
	b := []byte(s)
	return unsafe.String(unsafe.SliceData(b), len(b)), b
}

// P12.1 to P12.3: no bytes of a text that was handed in are kept (K3).
func TestLentTexts(t *testing.T) {
	key, kb := lent("key")
	value, vb := lent("value")
	x := there(key, value)
	var m merge.Mem
	m.Put(x)
	lists := merge.Lists([][]api.Entry{{x}}, true)
	parts := merge.Split([]api.Entry{x}, 1, 1)
	clear(kb)
	clear(vb)
	want := there("key", "value")
	y, ok := m.Get("key")
	if !ok || y != want || m.All()[0] != want || lists[0] != want || parts[0][0] != want {
		t.Errorf("%v, %v, %v, %v", y, m.All(), lists, parts)
	}
	own := func(a, b string) bool { return unsafe.StringData(a) != unsafe.StringData(b) }
	z, _ := m.Get("key")
	if a, b := m.All()[0], m.All()[0]; !own(a.Key, b.Key) || !own(a.Value, b.Value) || !own(y.Key, z.Key) || !own(y.Value, z.Value) {
		t.Error("two answers share memory")
	}
}
