package table_test

import (
	"bytes"
	"math"
	"slices"
	"strings"
	"testing"
	"unsafe"

	"chirograph/api"
	"chirograph/block"
	"chirograph/bloom"
	"chirograph/seal"
	"chirograph/table"
)

// dice are numbers of all kinds, other ones for each seed.
type dice uint32

func (d *dice) roll(n int) int {
	*d = *d*1664525 + 1013904223
	return int(*d>>8) % n
}

// word is a text of n bytes of a few kinds: many such have bytes in common.
func (d *dice) word(n int) string {
	b := make([]byte, n)
	for i := range b {
		b[i] = "ab\x00\xff"[d.roll(4)]
	}
	return string(b)
}

// list is 1 to n entries of rising keys.
func (d *dice) list(n int) []api.Entry {
	var l []api.Entry
	for range 1 + d.roll(n) {
		x := api.Entry{Key: d.word(1 + d.roll(8)), Gone: d.roll(4) == 0}
		if !x.Gone {
			x.Value = d.word(d.roll(40))
		}
		l = append(l, x)
	}
	slices.SortFunc(l, func(a, b api.Entry) int { return strings.Compare(a.Key, b.Key) })
	return slices.CompactFunc(l, func(a, b api.Entry) bool { return a.Key == b.Key })
}

// numbered is n entries of rising keys of so many bytes, two at least.
func numbered(n, long int) []api.Entry {
	var l []api.Entry
	for i := range n {
		l = append(l, api.Entry{Key: string([]byte{byte(i >> 8), byte(i)}) + strings.Repeat("k", long-2)})
	}
	return l
}

func keyed(keys ...string) []api.Entry {
	var l []api.Entry
	for _, key := range keys {
		l = append(l, api.Entry{Key: key})
	}
	return l
}

func is(t *testing.T, what string, got, want api.Errno) {
	t.Helper()
	if got != want {
		t.Fatalf("%s: %d instead of %d", what, got, want)
	}
}

// spelled is a number as bytes, by layer 2's words.
func spelled(n int) string {
	s := ""
	for ; n > 0; n >>= 8 {
		s = string([]byte{byte(n)}) + s
	}
	return string([]byte{byte(len(s))}) + s
}

// text is a text as bytes, by layer 2's words.
func text(s string) string { return spelled(len(s)) + s }

func framed(s string) string {
	f, e := seal.Wrap(s)
	if e != api.OK {
		panic("a text for which there is no frame")
	}
	return f
}

func blockOf(l ...api.Entry) string {
	s, e := block.Make(l)
	if e != api.OK {
		panic("entries for which there is no block")
	}
	return s
}

// groups are the groups of entries, by the chapter's words.
func groups(l []api.Entry, size int) [][]api.Entry {
	var all [][]api.Entry
	var g []api.Entry
	sum := 0
	for i, x := range l {
		g = append(g, x)
		sum += len(x.Key) + len(x.Value) + 8
		if sum >= size || len(g) == 256 || i == len(l)-1 {
			all = append(all, g)
			g, sum = nil, 0
		}
	}
	return all
}

// row is a line of an index.
type row struct {
	place int
	last  string
}

func indexText(rows ...row) string {
	s := spelled(len(rows))
	for _, x := range rows {
		s += spelled(x.place) + text(x.last)
	}
	return s
}

func footText(index int, filter string, count int, first string) string {
	return spelled(index) + text(filter) + spelled(count) + text(first)
}

// tailed is bytes, a foot's frame, and how many bytes that has.
func tailed(ahead, foot string) string {
	n := len(foot)
	return ahead + foot + string([]byte{byte(n / 65536), byte(n / 256 % 256), byte(n % 256)})
}

// filterText is the bytes of the filter of the keys of entries.
func filterText(l []api.Entry) string {
	var keys []string
	for _, x := range l {
		keys = append(keys, x.Key)
	}
	f, _ := bloom.Make(keys, 10)
	s, _ := f.Bytes()
	return s
}

// through is the bytes of a filter that lets all keys through; shut of one that lets none.
const (
	through = "\x01\x01\x01\x01\xff"
	shut    = "\x01\x01\x01\x01\x00"
)

// plain is the table of entries, by the chapter's words.
func plain(l []api.Entry, size int) string {
	s := ""
	var rows []row
	for _, g := range groups(l, size) {
		rows = append(rows, row{len(s), g[len(g)-1].Key})
		s += blockOf(g...)
	}
	return tailed(s+framed(indexText(rows...)), framed(footText(len(s), filterText(l), len(l), l[0].Key)))
}

func opened(t *testing.T, s string) *table.Table {
	t.Helper()
	x, e := table.Open(s)
	if x == nil || e != api.OK {
		t.Fatalf("Open of %d bytes: %v, %d", len(s), x, e)
	}
	return x
}

func refused(t *testing.T, s string, want api.Errno) {
	t.Helper()
	for range 2 {
		if x, e := table.Open(s); x != nil || e != want {
			t.Errorf("Open of %.60q (%d bytes): %v, %d instead of %d", s, len(s), x, e, want)
		}
	}
}

// gets asks for a key's entry, or, of the zero entry, that there is none.
func gets(t *testing.T, x *table.Table, key string, want api.Entry) {
	t.Helper()
	for range 2 {
		if y, ok, e := x.Get(key); y != want || ok != (want != api.Entry{}) || e != api.OK {
			t.Fatalf("Get(%q): %v, %v, %d instead of %v", key, y, ok, e, want)
		}
	}
}

func notGot(t *testing.T, x *table.Table, key string, want api.Errno) {
	t.Helper()
	for range 2 {
		if y, ok, e := x.Get(key); (y != api.Entry{}) || ok || e != want {
			t.Fatalf("Get(%q): %v, %v, %d instead of %d", key, y, ok, e, want)
		}
	}
}

func ranges(t *testing.T, x *table.Table, from, to string, want ...api.Entry) {
	t.Helper()
	for range 2 {
		if l, e := x.Range(from, to); !slices.Equal(l, want) || e != api.OK {
			t.Fatalf("Range(%q, %q): %v, %d instead of %v", from, to, l, e, want)
		}
	}
}

func notRanged(t *testing.T, x *table.Table, from, to string, want api.Errno) {
	t.Helper()
	for range 2 {
		if l, e := x.Range(from, to); len(l) != 0 || e != want {
			t.Fatalf("Range(%q, %q): %v, %d instead of %d", from, to, l, e, want)
		}
	}
}

// P10.1: the chapter's example, its table written out.
func TestExample(t *testing.T) {
	l := []api.Entry{{Key: "a", Value: "1"}}
	s, e := table.Make(l, 100)
	want := framed("\x01\x01\x00\x01\x01a\x00\x01\x011") + framed("\x01\x01\x00\x01\x01a") +
		framed("\x01\x12"+"\x01\x07"+"\x01\x07\x01\x03\x00\x00\xfe"+"\x01\x01"+"\x01\x01a") + "\x00\x00\x18"
	if s != want || e != api.OK {
		t.Fatalf("%x instead of %x, %d", s, want, e)
	}
	x := opened(t, s)
	if x.First() != "a" || x.Last() != "a" || x.Count() != 1 {
		t.Errorf("%q, %q, %d", x.First(), x.Last(), x.Count())
	}
	gets(t, x, "a", l[0])
	gets(t, x, "b", api.Entry{})
	if table.Each != 10 || table.MaxEntries != 2048 {
		t.Error("Each, MaxEntries")
	}
}

// made asks for the table of entries.
func made(t *testing.T, l []api.Entry, size int) string {
	t.Helper()
	s, e := table.Make(l, size)
	if e != api.OK || s != plain(l, size) {
		t.Fatalf("Make of %d entries, size %d: %d bytes, %d", len(l), size, len(s), e)
	}
	return s
}

// P10.1: a table is just these bytes.
func TestMake(t *testing.T) {
	for seed := range 200 {
		r := dice(seed)
		l := r.list(1 + r.roll(120))
		for _, size := range []int{1, 2, 9, 10, 11, 12, 1 + r.roll(300), 1 + r.roll(16384), 16384} {
			made(t, l, size)
		}
	}
	for _, n := range []int{1, 255, 256, 257, 511, 512, 513, 2047, 2048} {
		made(t, numbered(n, 2), 16384)
		made(t, numbered(n, 2), 1)
	}
	long := numbered(50, 100)
	for i := range long {
		long[i].Value = strings.Repeat("v", 4000)
	}
	for _, size := range []int{1, 4108, 4109, 12323, 12324, 12325, 16384} {
		made(t, long, size)
	}
}

// P10.1: where groups end: with the entry with which the sum is size or more.
func TestGroups(t *testing.T) {
	l := []api.Entry{{Key: "a", Value: "1"}, {Key: "b", Gone: true}, {Key: "c", Value: "333"}, {Key: "dd"}} // 10, 9, 12, 10
	for size, want := range map[int][]string{
		1: {"a", "b", "c", "dd"}, 9: {"a", "b", "c", "dd"}, 10: {"a", "c", "dd"}, 11: {"b", "c", "dd"}, 19: {"b", "dd"}, 20: {"c", "dd"},
		22: {"c", "dd"}, 31: {"c", "dd"}, 32: {"dd"}, 41: {"dd"}, 42: {"dd"}, 16384: {"dd"},
	} {
		var rows []row
		s := made(t, l, size)
		for at := 0; len(rows) < len(want); {
			g, n, e := block.Read(s[at:])
			is(t, "a block", e, api.OK)
			rows = append(rows, row{at, g[len(g)-1].Key})
			at += n
		}
		for i, x := range rows {
			if x.last != want[i] {
				t.Errorf("size %d: %v", size, rows)
			}
		}
	}
}

// wrongTable is entries that no table is made of, and the error of these.
type wrongTable struct {
	l    []api.Entry
	size int
	want api.Errno
}

func wrongTables() []wrongTable {
	long, much := strings.Repeat("k", 101), strings.Repeat("v", 4001)
	fine := numbered(3, 2)
	many := numbered(2049, 2)
	return []wrongTable{
		{fine, 0, api.ErrArg}, {fine, -1, api.ErrArg}, {fine, 16385, api.ErrArg}, {fine, math.MaxInt, api.ErrArg}, {fine, math.MinInt, api.ErrArg},
		{nil, 0, api.ErrArg}, {many, 16385, api.ErrArg}, {keyed(""), 0, api.ErrArg},
		{nil, 1, api.ErrForm}, {[]api.Entry{}, 16384, api.ErrForm},
		{many, 1, api.ErrBig}, {many, 16384, api.ErrBig}, {make([]api.Entry, 2049), 1, api.ErrBig}, {make([]api.Entry, 100000), 1, api.ErrBig},
		// The errors of the blocks.
		{keyed(""), 1, api.ErrForm}, {keyed("a", ""), 1, api.ErrForm}, {keyed(long), 1, api.ErrBig}, {keyed("a", long), 100, api.ErrBig},
		{[]api.Entry{{Key: "a", Value: much}}, 1, api.ErrBig}, {[]api.Entry{{Key: "a", Value: "x", Gone: true}}, 1, api.ErrForm},
		{[]api.Entry{{Key: "a", Value: strings.Repeat("v", 100000)}}, 16384, api.ErrBig}, {make([]api.Entry, 2048), 1, api.ErrForm},
		// Keys that don't rise: in a group; from group to group.
		{keyed("b", "a"), 100, api.ErrForm}, {keyed("a", "a"), 100, api.ErrForm}, {keyed("b", "a"), 1, api.ErrForm}, {keyed("a", "a"), 1, api.ErrForm},
		{keyed("ab", "a"), 1, api.ErrForm}, {keyed("a", "b", "c", "c"), 1, api.ErrForm}, {keyed("a", "c", "b", "d"), 18, api.ErrForm},
		{append(numbered(256, 2), api.Entry{Key: "\x00\xff"}), 16384, api.ErrForm},
		// Group by group, and in a group the block's error ahead of the keys'.
		{keyed("b", "a", long), 1, api.ErrForm}, {keyed("b", long, "a"), 1, api.ErrBig}, {keyed(long, ""), 1, api.ErrBig}, {keyed("", long), 1, api.ErrForm},
		{keyed("b", "a", long), 18, api.ErrForm}, {keyed("z", "za", "a", long), 18, api.ErrBig}, {keyed("z", "a", "b", long), 18, api.ErrForm},
		{[]api.Entry{{Key: "b"}, {Key: "a", Value: much}}, 1, api.ErrBig}, {[]api.Entry{{Key: "b"}, {Key: "a", Value: "x", Gone: true}, {Key: long}}, 1, api.ErrForm},
		// The index has more than MaxText bytes; what the groups have goes ahead.
		{numbered(2048, 100), 1, api.ErrBig}, {append(numbered(2047, 100), api.Entry{Key: "a"}), 1, api.ErrBig},
		{append(numbered(2047, 100), api.Entry{Key: "\x00"}), 1, api.ErrForm},
	}
}

// P10.1
func TestMakeErrors(t *testing.T) {
	for i, x := range wrongTables() {
		if s, e := table.Make(x.l, x.size); s != "" || e != x.want {
			t.Errorf("%d: %d bytes, %d instead of %d", i, len(s), e, x.want)
		}
	}
}

// P10.1: the index may have MaxText bytes and no more.
func TestMakeIndexTooBig(t *testing.T) {
	each := len(blockOf(numbered(1, 100)...))
	left := api.MaxText - len(spelled(600)) // how many bytes of the index there are for groups
	n := 0
	for left > 110 {
		left -= len(spelled(n*each)) + len(text(strings.Repeat("k", 100)))
		n++
	}
	most := left - len(spelled(n*each)) - len(text("k")) + 1 // how long the last key of them may be
	if n < 600 || most < 3 || most > 97 {
		t.Fatalf("%d groups, and %d bytes", n, most)
	}
	for _, long := range []int{1, 2, most - 1, most, most + 1, most + 2, 100} {
		l := append(numbered(n, 100), api.Entry{Key: strings.Repeat("z", long)})
		if long <= most {
			made(t, l, 1)
		} else if s, e := table.Make(l, 1); s != "" || e != api.ErrBig {
			t.Fatalf("a key of %d bytes: %d bytes, %d", long, len(s), e)
		}
	}
}

// three is a table of three blocks, of which one may make other parts.
type three struct {
	l      []api.Entry
	blocks string
	places []int
	rows   []row
}

func newThree() three {
	x := three{l: []api.Entry{{Key: "b", Value: "1"}, {Key: "d", Gone: true}, {Key: "f", Value: "3"}}}
	for _, y := range x.l {
		x.places = append(x.places, len(x.blocks))
		x.rows = append(x.rows, row{len(x.blocks), y.Key})
		x.blocks += blockOf(y)
	}
	return x
}

// foot is the text of the foot, with a filter that lets all keys through.
func (x three) foot(count int) string { return footText(len(x.blocks), through, count, "b") }

// with is the table with another index, and that index's text.
func (x three) with(index string) string {
	return tailed(x.blocks+framed(index), framed(x.foot(3)))
}

// P10.2: what is right is opened, and what First, Last and Count say is what foot and index say.
func TestOpen(t *testing.T) {
	x := newThree()
	right := indexText(x.rows...)
	y := opened(t, x.with(right))
	if y.First() != "b" || y.Last() != "f" || y.Count() != 3 {
		t.Errorf("%q, %q, %d", y.First(), y.Last(), y.Count())
	}
	for _, count := range []int{3, 4, 2047, 2048} {
		if y := opened(t, tailed(x.blocks+framed(right), framed(x.foot(count)))); y.Count() != count {
			t.Errorf("%d instead of %d", y.Count(), count)
		}
	}
	for _, first := range []string{"", "zzz", strings.Repeat("k", 60000)} { // nobody looks at it
		y := opened(t, tailed(x.blocks+framed(right), framed(footText(len(x.blocks), through, 5, first))))
		if y.First() != first || y.Last() != "f" || y.Count() != 5 {
			t.Errorf("%q, %q, %d", y.First(), y.Last(), y.Count())
		}
	}
	for _, rows := range [][]row{{{0, ""}}, {{0, ""}, {1, "\x00"}}, {{0, strings.Repeat("z", 60000)}}, {{0, "b"}, {len(x.blocks) - 1, "c"}}} {
		if y := opened(t, x.with(indexText(rows...))); y.Last() != rows[len(rows)-1].last || y.Count() != 3 {
			t.Errorf("%.20q", y.Last())
		}
	}
}

// P10.2: a foot may have so many bytes that three are needed to tell it.
func TestOpenGreatFoot(t *testing.T) {
	x := newThree()
	ahead := x.blocks + framed(indexText(x.rows...))
	room := api.MaxText - len(footText(len(x.blocks), through, 3, strings.Repeat("k", 65000)))
	first := strings.Repeat("k", 65000+room)
	s := tailed(ahead, framed(footText(len(x.blocks), through, 3, first)))
	if s[len(s)-3:] != "\x01\x00\x08" {
		t.Fatalf("%x", s[len(s)-3:])
	}
	if y := opened(t, s); y.First() != first || y.Last() != "f" {
		t.Error("First, Last")
	}
	refused(t, s[:len(s)-3]+"\x00\x00\x08", api.ErrText)
}

// P10.2: the table's end, and the foot's frame.
func TestOpenTail(t *testing.T) {
	x := newThree()
	index, foot := framed(indexText(x.rows...)), framed(x.foot(3))
	opened(t, tailed(x.blocks+index, foot))
	for _, s := range []string{
		"", "a", "ab", "\x00\x00", "\x00\x00\x01", "\x00\x01\x00", "\x01\x00\x00", "\xff\xff\xff", "ab\x00\x00\x03", "\x5e\x00\x00\x00\x00\x00\x09",
		strings.Repeat("x", 255) + "\x00\x01\x00", strings.Repeat("x", 65535) + "\x01\x00\x00", foot[1:] + string([]byte{0, 0, byte(len(foot))}),
		"\x00\x00\x00", "abcdefgh\x00\x00\x07", "abc\x00\x00\x00", // a frame of fewer than 8 bytes
		tailed(x.blocks+index, foot[:7]), tailed(x.blocks+index, foot[:8]), tailed(x.blocks+index, foot[:len(foot)-1]),
	} {
		refused(t, s, api.ErrEnd)
	}
	refused(t, "abcdefgh\x00\x00\x08", api.ErrText)
	refused(t, tailed(x.blocks+index, "x"+foot), api.ErrText)
	refused(t, tailed(x.blocks+index, "\x5e\x01\x00\x01\x00\x00\x00\x00"), api.ErrText)
	refused(t, tailed(x.blocks+index, foot+"\x00"), api.ErrForm)
	refused(t, tailed(x.blocks+index, foot+foot), api.ErrForm)
	refused(t, tailed(x.blocks+index, foot[:9]+"x"+foot[10:]), api.ErrSum)
	for _, s := range []string{foot[:1] + "\x00\x00\x01" + foot[4:], foot[:4] + "\x00\x00\x00\x00" + foot[8:], foot[:len(foot)-1] + "c"} {
		refused(t, tailed(x.blocks+index, s), api.ErrSum)
	}
}

// P10.2: what the foot says; its errors go ahead of those of the index.
func TestOpenFoot(t *testing.T) {
	x := newThree()
	at := len(x.blocks)
	index := framed(indexText(x.rows...))
	end := at + len(index)
	for _, index := range []string{index, strings.Repeat("x", len(index))} {
		for want, l := range map[api.Errno][]string{
			api.ErrEnd: {
				"", "\x01", "\x01\x05", spelled(at), spelled(at) + text(through), spelled(at) + text(through) + "\x01\x03", x.foot(3)[:len(x.foot(3))-1],
				footText(at, "", 3, "b"), footText(at, "\x01\x01\x01\x02\xff", 3, "b"), // the filter's
				footText(math.MaxInt, "", 3, "b"), spelled(at) + text("") + "\x01", // reading ahead of the filter
			},
			api.ErrText: {
				"\x09", "\x01\x00", "\x02\x00\x05" + x.foot(3)[2:], spelled(at) + "\x09", spelled(at) + text(through) + "\x09", spelled(at) + text(through) + "\x01\x03\xff",
				spelled(at) + text("\x09") + "\x01\x03\x09", footText(at, "\x09", 3, "b"), footText(at, "\x01\x00", 3, "b"),
			},
			api.ErrBig: {spelled(at) + "\x03\x01\x00\x01", spelled(at) + text(through) + "\x01\x03\x03\x01\x00\x01", footText(at, "\x01\x01\x03\x01\x00\x01", 3, "b")},
			api.ErrForm: {
				x.foot(3) + "\x00", footText(at, "", 3, "b") + "\x00", // bytes are left
				footText(at, through+"x", 3, "b"), footText(at, "\x00\x01\x01\xff", 3, "b"), footText(at, "\x01\x11\x01\x01\xff", 3, "b"), footText(at, "\x01\x01\x00", 3, "b"),
				footText(at, "\x01\x01"+text(strings.Repeat("x", 8193)), 3, "b"),
				footText(end+1, through, 3, "b"), footText(math.MaxInt, through, 3, "b"), footText(1<<32, through, 3, "b"), footText(end+100, through, 3, "b"),
			},
		} {
			for _, foot := range l {
				refused(t, tailed(x.blocks+index, framed(foot)), want)
			}
		}
	}
}

// P10.2: the index's frame.
func TestOpenIndexFrame(t *testing.T) {
	x := newThree()
	at, index, foot := len(x.blocks), framed(indexText(x.rows...)), framed(x.foot(3))
	for n := range index { // up to the foot
		refused(t, tailed(x.blocks+index[:n], foot), api.ErrEnd)
	}
	refused(t, tailed(x.blocks+index+"\x00", foot), api.ErrForm)
	refused(t, tailed(x.blocks+index+index, foot), api.ErrForm)
	refused(t, tailed(x.blocks+"\x00"+index, foot), api.ErrText)
	refused(t, tailed(index, foot), api.ErrForm)              // it begins behind where the foot does
	refused(t, tailed(x.blocks[1:]+index, foot), api.ErrText) // by one byte
	refused(t, tailed(x.blocks+"\x5e\x01\x00\x01\x00\x00\x00\x00", foot), api.ErrText)
	for i := 4; i < len(index); i++ {
		b := []byte(index)
		b[i]++
		refused(t, tailed(x.blocks+string(b), foot), api.ErrSum)
	}
	for from := range at { // said to begin elsewhere: ahead of the blocks' end
		_, n, want := seal.Open(x.blocks[from:] + index)
		if want == api.OK && n != len(x.blocks)-from+len(index) {
			want = api.ErrForm
		}
		refused(t, tailed(x.blocks+index, framed(footText(from, through, 3, "b"))), want)
	}
	refused(t, tailed(x.blocks+index, framed(footText(at+len(index), through, 3, "b"))), api.ErrEnd)
}

// P10.2: what the index says.
func TestOpenIndex(t *testing.T) {
	x := newThree()
	at, p := len(x.blocks), x.places
	right := indexText(x.rows...)
	opened(t, x.with(right))
	many := make([]row, 2049)
	for i := range many {
		many[i] = row{i, strings.Repeat("\x00", i%100) + "x"}
	}
	for want, l := range map[api.Errno][]string{
		api.ErrEnd: {
			"", "\x01", "\x01\x01", "\x01\x01\x00", "\x01\x01\x00\x01", "\x01\x01\x00\x01\x02a", right[:len(right)-1], "\x01\x04" + right[2:],
			"\x01\x01\x01\x05\x01", "\x01\x02\x00\x01\x01b\x00\x01", "\x01\x02\x00\x01\x01b\x04\x01\x00\x00\x00\x01\x02a", // read ahead of a look at it
		},
		api.ErrText: {"\x09", "\x01\x00", "\x01\x01\x09", "\x01\x01\x00\x09", "\x01\x01\x01\x05\x09", "\x01\x02\x00\x01\x01b\x00\x09", "\x02\x00\x03" + right[2:]},
		api.ErrBig:  {"\x02\x08\x01", "\x02\x08\x01" + right[2:], "\x08\x7f\xff\xff\xff\xff\xff\xff\xff", indexText(many...)[:60000], "\x01\x01\x00\x03\x01\x00\x01"},
		api.ErrForm: {
			// Places.
			indexText(row{1, "b"}), indexText(row{math.MaxInt, "b"}), indexText(row{0, "b"}, row{0, "d"}), indexText(row{0, "b"}, row{p[2], "d"}, row{p[1], "f"}),
			indexText(row{0, "b"}, row{p[1], "d"}, row{p[1], "f"}), indexText(row{0, "b"}, row{at, "d"}), indexText(row{0, "b"}, row{at + 1, "d"}),
			indexText(row{0, "b"}, row{math.MaxInt, "d"}), indexText(row{p[1], "b"}, row{p[2], "f"}),
			// Last keys.
			indexText(row{0, "b"}, row{p[1], "b"}), indexText(row{0, "b"}, row{p[1], "a"}), indexText(row{0, "b"}, row{p[1], ""}), indexText(row{0, ""}, row{p[1], ""}),
			indexText(row{0, "b"}, row{p[1], "d"}, row{p[2], "c"}), indexText(row{0, "\xff"}, row{p[1], "z"}), indexText(row{0, "ab"}, row{p[1], "a"}),
			// Group by group, ahead of the error of reading the next one.
			"\x01\x02" + "\x01\x05" + "\x01\x01b", "\x01\x02" + "\x01\x05" + "\x01\x01b\x09", "\x01\x03" + "\x00\x01\x01b" + "\x00\x01\x01d" + "\x09",
			"\x01\x03" + "\x00\x01\x01b" + spelled(p[1]) + "\x01\x01a" + "\x03",
			// Bytes are left; no group.
			right + "\x00", "\x00\x00", "\x00",
		},
	} {
		for _, index := range l {
			refused(t, x.with(index), want)
		}
	}
	// Of no blocks there's no place ahead of the index.
	refused(t, tailed(framed(indexText(row{0, "b"})), framed(footText(0, through, 1, "b"))), api.ErrForm)
	for _, count := range []int{0, 1, 2, 2049, 2050, math.MaxInt} {
		refused(t, tailed(x.blocks+framed(right), framed(x.foot(count))), api.ErrForm)
		refused(t, tailed(x.blocks+framed(right[:len(right)-1]), framed(x.foot(count))), api.ErrEnd) // at last
	}
	refused(t, tailed("x"+framed("\x00"), framed(footText(1, through, 0, ""))), api.ErrForm)
}

// P10.2: an index of 2048 groups is read, one of more isn't.
func TestOpenManyGroups(t *testing.T) {
	for _, n := range []int{2048, 2049} {
		var rows []row
		for i := range n {
			rows = append(rows, row{i, string([]byte{byte(i >> 8), byte(i)})})
		}
		blocks := strings.Repeat("x", n)
		s := tailed(blocks+framed(indexText(rows...)), framed(footText(n, through, 2048, "\x00\x00")))
		if n > 2048 {
			refused(t, s, api.ErrBig)
			continue
		}
		x := opened(t, s)
		notGot(t, x, "\x00\x07", api.ErrText)
		notGot(t, x, "\x07\xff", api.ErrText)
		gets(t, x, "\x08", api.Entry{})
	}
}

// P10.2: blocks are read where they are asked for, and their errors told then.
func TestSpoiltBlocks(t *testing.T) {
	x := newThree()
	index, foot := framed(indexText(x.rows...)), framed(x.foot(3))
	b := []byte(x.blocks)
	b[x.places[1]+9] ^= 1
	y := opened(t, tailed(string(b)+index, foot))
	gets(t, y, "b", x.l[0])
	gets(t, y, "a", api.Entry{})
	gets(t, y, "f", x.l[2])
	gets(t, y, "e", api.Entry{})
	gets(t, y, "g", api.Entry{})
	for _, key := range []string{"b\x00", "c", "d"} {
		notGot(t, y, key, api.ErrSum)
	}
	ranges(t, y, "d\x00", "", x.l[2])
	ranges(t, y, "e", "g", x.l[2])
	ranges(t, y, "g", "")
	ranges(t, y, "", "b") // behind a key that isn't below the end nothing is read
	ranges(t, y, "", "a")
	ranges(t, y, "b", "a")
	ranges(t, y, "a", "b")
	for _, to := range []string{"", "b\x00", "c", "d", "e", "z"} {
		notRanged(t, y, "", to, api.ErrSum)
		notRanged(t, y, "b", to, api.ErrSum)
		notRanged(t, y, "c", to, api.ErrSum)
	}
	notRanged(t, y, "c", "a", api.ErrSum) // the first group is read all the same
	b[x.places[1]] = 'x'
	y = opened(t, tailed(string(b)+index, foot))
	notGot(t, y, "d", api.ErrText)
	b[x.places[2]+3]++ // the last block goes on into the index
	y = opened(t, tailed(string(b)+index, foot))
	notGot(t, y, "f", api.ErrSum)
	b[x.places[2]+1] = 1
	y = opened(t, tailed(string(b)+index, foot))
	notGot(t, y, "f", api.ErrText)
	b[x.places[2]+1], b[x.places[2]+2] = 0, 255
	y = opened(t, tailed(string(b)+index, foot))
	notGot(t, y, "f", api.ErrEnd)
	notRanged(t, y, "e", "", api.ErrEnd)
}

// P10.2: a block must end with the key that the index says.
func TestOtherBlocks(t *testing.T) {
	x := newThree()
	second := func(b string) *table.Table {
		at := x.places[1]
		blocks := x.blocks[:at] + b + x.blocks[x.places[2]:]
		rows := []row{{0, "b"}, {at, "d"}, {at + len(b), "f"}}
		return opened(t, tailed(blocks+framed(indexText(rows...)), framed(footText(len(blocks), through, 3, "b"))))
	}
	for want, l := range map[api.Errno][]string{
		api.ErrForm: {
			blockOf(), blockOf(keyed("c")...), blockOf(keyed("d", "e")...), blockOf(keyed("d\x00")...), blockOf(keyed("c", "cz")...),
			framed("\x01\x01\x00\x00\x00\x00"), framed("\x00\x00"),
		},
		api.ErrEnd: {framed(""), framed("\x01\x01")},
		api.ErrBig: {framed("\x02\x01\x01"), framed("\x01\x01\x00" + text(strings.Repeat("d", 101)) + "\x01")},
	} {
		for _, b := range l {
			y := second(b)
			for _, key := range []string{"c", "cz", "d"} {
				notGot(t, y, key, want)
			}
			gets(t, y, "b", x.l[0])
			gets(t, y, "f", x.l[2])
			notRanged(t, y, "", "", want)
			notRanged(t, y, "c", "d", want)
			ranges(t, y, "", "b")
			ranges(t, y, "e", "", x.l[2])
		}
	}
	// A block of other keys, whose last one is right: these are told as they stand.
	l := keyed("a", "c", "d")
	y := second(blockOf(l...))
	gets(t, y, "c", l[1])
	gets(t, y, "d", l[2])
	gets(t, y, "a", api.Entry{}) // the group ahead would have it
	ranges(t, y, "", "", x.l[0], l[0], l[1], l[2], x.l[2])
	ranges(t, y, "b", "d", x.l[0], l[1])
	ranges(t, y, "c", "", l[1], l[2], x.l[2])
	ranges(t, y, "c", "b")
}

// P10.2: what the filter says isn't there isn't looked for; a range doesn't ask it.
func TestFilter(t *testing.T) {
	x := newThree()
	index := framed(indexText(x.rows...))
	for _, blocks := range []string{x.blocks, strings.Repeat("x", len(x.blocks))} {
		y := opened(t, tailed(blocks+index, framed(footText(len(blocks), shut, 3, "b"))))
		for _, key := range []string{"", "a", "b", "c", "d", "f", "g"} {
			gets(t, y, key, api.Entry{})
		}
		if blocks == x.blocks {
			ranges(t, y, "", "", x.l...)
		} else {
			notRanged(t, y, "", "", api.ErrText)
		}
	}
	// Just one key is let through.
	y := opened(t, tailed(strings.Repeat("x", len(x.blocks))+index, framed(footText(len(x.blocks), filterText(keyed("d")), 3, "b"))))
	notGot(t, y, "d", api.ErrText)
	gets(t, y, "b", api.Entry{})
	gets(t, y, "f", api.Entry{})
}

// P10.2: a block is the frame at its place, wherever that ends.
func TestBlocksAnywhere(t *testing.T) {
	// The second block lies in the value of the first one.
	inner := blockOf(api.Entry{Key: "m", Value: "2"})
	outer := blockOf(api.Entry{Key: "b", Value: "ahead" + inner + "behind"})
	rows := []row{{0, "b"}, {strings.Index(outer, inner), "m"}}
	x := opened(t, tailed(outer+framed(indexText(rows...)), framed(footText(len(outer), through, 2, "b"))))
	gets(t, x, "b", api.Entry{Key: "b", Value: "ahead" + inner + "behind"})
	gets(t, x, "m", api.Entry{Key: "m", Value: "2"})
	if l, e := x.Range("", ""); len(l) != 2 || e != api.OK {
		t.Errorf("%v, %d", l, e)
	}
}

// P10.2: of a table in which one byte is another one nothing wrong is told: an error, or what the table has.
func TestSpoilt(t *testing.T) {
	l := []api.Entry{{Key: "b", Value: "1"}, {Key: "d", Gone: true}, {Key: "f", Value: "3"}, {Key: "h", Value: "4"}}
	s, _ := table.Make(l, 18)
	index := len(blockOf(l[:2]...)) + len(blockOf(l[2:]...))
	count := map[api.Errno]int{}
	for at := range s {
		for bit := range 8 {
			b := []byte(s)
			b[at] ^= 1 << bit
			x, e := table.Open(string(b))
			if (e == api.OK) != (at < index) {
				t.Fatalf("byte %d: %d", at, e)
			}
			if e != api.OK {
				count[e]++
				continue
			}
			bad := 0
			for i, y := range l {
				z, ok, e := x.Get(y.Key)
				if e != api.OK {
					bad++
					z, ok = y, true
				}
				if z != y || !ok {
					t.Fatalf("byte %d: %v instead of %v (%d)", at, z, y, i)
				}
			}
			if _, e := x.Range("", ""); bad != 2 || e == api.OK {
				t.Fatalf("byte %d: %d, %d", at, bad, e)
			}
		}
	}
	if count[api.ErrSum] < 100 || count[api.ErrEnd] < 10 || count[api.ErrText] < 10 {
		t.Errorf("%v", count)
	}
	for n := range s {
		if x, e := table.Open(s[:n]); x != nil || e == api.OK {
			t.Fatalf("%d bytes: opened", n)
		}
	}
}

// P10.2: of any bytes each call ends.
func TestAny(t *testing.T) {
	count := 0
	for seed := range 20000 {
		r := dice(seed)
		rows := make([]row, r.roll(4))
		place, last := 0, ""
		for i := range rows {
			rows[i] = row{place, last + r.word(r.roll(3))}
			place, last = place+r.roll(30), rows[i].last+"\x00"[:r.roll(2)]
		}
		blocks := ""
		for range r.roll(4) {
			l := r.list(3)
			blocks += blockOf(l...)
		}
		s := tailed(blocks+framed(indexText(rows...)), framed(footText(max(0, len(blocks)-r.roll(2)), through, r.roll(5), "")))
		x, e := table.Open(s)
		if e != api.OK {
			if x != nil {
				t.Fatalf("%q: a table beside %d", s, e)
			}
			continue
		}
		count++
		for _, key := range []string{"", r.word(1), r.word(3), last} {
			if y, ok, e := x.Get(key); ok && (e != api.OK || y.Key != key) || !ok && (y != api.Entry{}) {
				t.Fatalf("%q, %q: %v, %v, %d", s, key, y, ok, e)
			}
			if l, e := x.Range(key, r.word(2)); len(l) > 0 && e != api.OK {
				t.Fatalf("%q, %q: %v, %d", s, key, l, e)
			}
		}
	}
	if count < 1000 {
		t.Errorf("%d were opened", count)
	}
}

// inside is the entries of a plain list in a range.
func inside(l []api.Entry, from, to string) []api.Entry {
	var all []api.Entry
	for _, x := range l {
		if x.Key >= from && (to == "" || x.Key < to) {
			all = append(all, x)
		}
	}
	return all
}

// P10.3: each key has its entry, no other key has one; all come back, in any range.
func TestAsAPlainList(t *testing.T) {
	for seed := range 150 {
		r := dice(seed)
		l := r.list(1 + r.roll(200))
		has := map[string]api.Entry{}
		for _, x := range l {
			has[x.Key] = x
		}
		for _, size := range []int{1, 1 + r.roll(200), 1 + r.roll(2000), 16384} {
			x := opened(t, made(t, l, size))
			if x.First() != l[0].Key || x.Last() != l[len(l)-1].Key || x.Count() != len(l) {
				t.Fatalf("%q, %q, %d", x.First(), x.Last(), x.Count())
			}
			keys := []string{"", "\x00", "\xff\xff\xff\xff\xff\xff\xff\xff\xff", r.word(2), r.word(5)}
			for _, y := range l {
				gets(t, x, y.Key, y)
				keys = append(keys, y.Key)
				for _, key := range []string{y.Key + "\x00", y.Key[:len(y.Key)-1], r.word(len(y.Key))} {
					gets(t, x, key, has[key])
				}
			}
			ranges(t, x, "", "", l...)
			for range 40 {
				from, to := keys[r.roll(len(keys))], keys[r.roll(len(keys))]
				ranges(t, x, from, to, inside(l, from, to)...)
			}
		}
	}
}

// P10.3: the greatest tables, and the greatest entries.
func TestGreatTables(t *testing.T) {
	l := numbered(2048, 4)
	for i := range l {
		l[i].Value = strings.Repeat("v", i%50)
	}
	great := numbered(600, 100)
	for i := range great {
		great[i].Value = strings.Repeat("v", 4000)
	}
	for _, l := range [][]api.Entry{l, great, numbered(1, 100)} {
		for _, size := range []int{1, 1000, 16384} {
			x := opened(t, made(t, l, size))
			if x.First() != l[0].Key || x.Last() != l[len(l)-1].Key || x.Count() != len(l) {
				t.Fatalf("%d entries, size %d: %d", len(l), size, x.Count())
			}
			for i := 0; i < len(l); i += 7 {
				gets(t, x, l[i].Key, l[i])
			}
			ranges(t, x, "", "", l...)
			ranges(t, x, l[len(l)/2].Key, "", l[len(l)/2:]...)
			ranges(t, x, "", l[len(l)/2].Key, l[:len(l)/2]...)
		}
	}
}

// lent is a text whose bytes can be made others, as those of nobody's memory can't.
func lent(s string) (string, []byte) {
	b := []byte(s)
	return unsafe.String(unsafe.SliceData(b), len(b)), b
}

// spoil makes others of a text's bytes: it must be no constant.
func spoil(s string) {
	clear(unsafe.Slice(unsafe.StringData(s), len(s)))
}

// P10.1, P10.2: what is handed in isn't changed or kept, and answers are nobody's but the caller's (K3).
func TestMemory(t *testing.T) {
	l := []api.Entry{{Key: "a", Value: "1"}, {Key: "b", Value: "22"}, {Key: "c", Gone: true}, {Key: "spare"}}
	twin := slices.Clone(l)
	s, _ := table.Make(l[:3], 18)
	if !slices.Equal(l, twin) {
		t.Errorf("%v", l)
	}
	s, b := lent(s)
	before := bytes.Clone(b)
	x := opened(t, s)
	if !bytes.Equal(b, before) {
		t.Error("Open changes what is handed in")
	}
	clear(b)
	for range 2 { // what was answered is made others
		y, _, _ := x.Get("b")
		spoil(y.Key)
		spoil(y.Value)
		all, _ := x.Range("", "")
		for _, y := range all {
			spoil(y.Key)
			spoil(y.Value)
		}
		clear(all)
		spoil(x.First())
		spoil(x.Last())
	}
	for _, y := range l[:3] {
		gets(t, x, y.Key, y)
	}
	ranges(t, x, "", "", l[:3]...)
	if x.First() != "a" || x.Last() != "c" || x.Count() != 3 {
		t.Errorf("%q, %q, %d", x.First(), x.Last(), x.Count())
	}
}
