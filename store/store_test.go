package store_test

import (
	"fmt"
	"maps"
	"math"
	"slices"
	"strings"
	"testing"
	"unsafe"

	"chirograph/api"
	"chirograph/disk"
	"chirograph/journal"
	"chirograph/level"
	"chirograph/seal"
	"chirograph/store"
	"chirograph/table"
)

// dice are numbers of all kinds, other ones for each seed.
type dice uint32

func (d *dice) roll(n int) int {
	*d = *d*1664525 + 1013904223
	return int(*d>>8) % n
}

// key is one of few.
func (d *dice) key() string { return keys()[d.roll(len(keys()))] }

func keys() []string {
	var l []string
	for i := range 24 {
		l = append(l, string(rune('a'+i))+strings.Repeat("-", i%3))
	}
	return append(l, "a", "\x00", "\xff\xff", strings.Repeat("m", 100))
}

// batch is up to n entries of unlike keys.
func (d *dice) batch(n int) []api.Entry {
	var l []api.Entry
	for range 1 + d.roll(n) {
		x := api.Entry{Key: d.key(), Gone: d.roll(3) == 0}
		if !x.Gone {
			x.Value = strings.Repeat(string(rune('a'+d.roll(26))), d.roll(20))
		}
		if !slices.ContainsFunc(l, func(y api.Entry) bool { return y.Key == x.Key }) {
			l = append(l, x)
		}
	}
	return l
}

// plain is what a store has, by keys.
type plain map[string]string

// behind is what there is behind a batch.
func (p plain) behind(l []api.Entry) plain {
	q := maps.Clone(p)
	for _, x := range l {
		if x.Gone {
			delete(q, x.Key)
		} else {
			q[x.Key] = x.Value
		}
	}
	return q
}

func (p plain) list(from, to string) []api.Entry {
	var l []api.Entry
	for _, k := range slices.Sorted(maps.Keys(p)) {
		if k >= from && (to == "" || k < to) {
			l = append(l, api.Entry{Key: k, Value: p[k]})
		}
	}
	return l
}

func there(key, value string) api.Entry { return api.Entry{Key: key, Value: value} }
func gone(key string) api.Entry         { return api.Entry{Key: key, Gone: true} }

func is(t *testing.T, what string, got, want api.Errno) {
	t.Helper()
	if got != want {
		t.Fatalf("%s: %d instead of %d", what, got, want)
	}
}

// options are right ones: of stores that put together at once, now and then, and never by themselves.
func options() []store.Options {
	return []store.Options{
		{Mem: 100, Block: 40, Table: 100, Limits: level.Limits{Count: 3, Size: 300}},
		{Mem: 1, Block: 1, Table: 1, Limits: level.Limits{Count: 1, Size: 1}},
		{Mem: 60, Block: 4096, Table: 150, Limits: level.Limits{Count: 2, Size: 200}},
		{Mem: 1 << 20, Block: 1 << 14, Table: 1 << 15, Limits: level.Limits{Count: 100, Size: 1 << 30}},
		{Mem: 250, Block: 20, Table: 50, Limits: level.Limits{Count: 10, Size: 100}},
	}
}

// still are options of a store that does nothing by itself.
func still() store.Options { return options()[3] }

func opened(t *testing.T, d *disk.Disk, o store.Options) *store.Store {
	t.Helper()
	s, e := store.Open(d, o)
	if e != api.OK || s == nil {
		t.Fatalf("Open: %v, %d", s, e)
	}
	return s
}

func written(t *testing.T, s *store.Store, l ...api.Entry) {
	t.Helper()
	is(t, "Write", s.Write(l), api.OK)
}

func flushed(t *testing.T, s *store.Store) {
	t.Helper()
	is(t, "Flush", s.Flush(), api.OK)
}

func stepped(t *testing.T, s *store.Store, want bool) {
	t.Helper()
	if did, e := s.Step(); did != want || e != api.OK {
		t.Fatalf("Step: %v, %d instead of %v", did, e, want)
	}
}

func got(t *testing.T, s *store.Store, key, want string, there bool) {
	t.Helper()
	if v, ok, e := s.Get(key); v != want || ok != there || e != api.OK {
		t.Fatalf("Get(%q): %q, %v, %d instead of %q, %v", key, v, ok, e, want, there)
	}
}

func scanned(t *testing.T, s *store.Store, from, to string, want ...api.Entry) {
	t.Helper()
	if l, e := s.Scan(from, to); e != api.OK || !slices.Equal(l, want) {
		t.Fatalf("Scan(%q, %q): %v, %d instead of %v", from, to, l, e, want)
	}
}

func kept(t *testing.T, s *store.Store, want int) {
	t.Helper()
	if n := s.Kept(); n != want {
		t.Fatalf("Kept: %d instead of %d", n, want)
	}
}

// laid puts a file on a disk.
func laid(t *testing.T, d *disk.Disk, name, b string) {
	t.Helper()
	is(t, "Append", d.Append(name, b), api.OK)
	is(t, "Sync", d.Sync(name), api.OK)
}

// sorted puts a table on a disk: its file in a state.
func sorted(t *testing.T, d *disk.Disk, num, at int, l ...api.Entry) level.File {
	t.Helper()
	b, e := table.Make(l, 100)
	is(t, "Make", e, api.OK)
	laid(t, d, store.Name(num), b)
	return level.File{Num: num, Level: at, Size: len(b), First: l[0].Key, Last: l[len(l)-1].Key}
}

// manifest puts a state on a disk.
func manifest(t *testing.T, d *disk.Disk, next, log int, files ...level.File) {
	t.Helper()
	b, e := level.Bytes(level.State{Next: next, Log: log, Files: files})
	is(t, "Bytes", e, api.OK)
	laid(t, d, "man", b)
}

func framed(t *testing.T, text string) string {
	t.Helper()
	b, e := seal.Wrap(text)
	is(t, "Wrap", e, api.OK)
	return b
}

// files are the names and bytes of all that lies on a disk that lives.
func files(t *testing.T, d *disk.Disk) map[string]string {
	t.Helper()
	all := map[string]string{}
	for _, name := range d.List() {
		s, e := d.Read(name)
		is(t, "Read", e, api.OK)
		all[name] = s
	}
	return all
}

// tables are the entries of all that a state has, in its order, as they lie on the disk.
func tables(t *testing.T, d *disk.Disk, s level.State) [][]api.Entry {
	t.Helper()
	var all [][]api.Entry
	for _, f := range s.Files {
		b, e := d.Read(store.Name(f.Num))
		is(t, "Read", e, api.OK)
		x, e := table.Open(b)
		is(t, "Open", e, api.OK)
		l, e := x.Range("", "")
		is(t, "Range", e, api.OK)
		if len(b) != f.Size || l[0].Key != f.First || l[len(l)-1].Key != f.Last {
			t.Fatalf("%v, but %d bytes, %q to %q", f, len(b), l[0].Key, l[len(l)-1].Key)
		}
		all = append(all, l)
	}
	return all
}

// batches are those of a disk's journal from a segment on.
func batches(t *testing.T, d *disk.Disk, log int) [][]api.Entry {
	t.Helper()
	var all [][]api.Entry
	for _, n := range journal.Segments(d) {
		b, e := d.Read(journal.Name(n))
		is(t, "Read", e, api.OK)
		if n < log {
			t.Fatalf("segment %d is nobody's: the journal counts from %d on", n, log)
		}
		texts, _ := seal.All(b)
		for _, s := range texts {
			all = append(all, batch(t, s))
		}
	}
	return all
}

// spelt is the text of a batch of short texts.
func spelt(l ...api.Entry) string {
	text := func(s string) string {
		if s == "" {
			return "\x00"
		}
		return string([]byte{1, byte(len(s))}) + s
	}
	if len(l) == 0 {
		return "\x00"
	}
	all := string([]byte{1, byte(len(l))})
	for _, x := range l {
		flag := "\x00"
		if x.Gone {
			flag = "\x01"
		}
		all += text(x.Key) + flag + text(x.Value)
	}
	return all
}

// batch is the one of a text; all that it has is short.
func batch(t *testing.T, s string) []api.Entry {
	t.Helper()
	number := func() int {
		size := int(s[0])
		n := 0
		for _, b := range []byte(s[1 : 1+size]) {
			n = n<<8 | int(b)
		}
		s = s[1+size:]
		return n
	}
	text := func() string {
		n := number()
		x := s[:n]
		s = s[n:]
		return x
	}
	var l []api.Entry
	for range number() {
		x := api.Entry{Key: text(), Gone: s[0] == 1}
		s = s[1:]
		x.Value = text()
		l = append(l, x)
	}
	if s != "" {
		t.Fatalf("%q is left", s)
	}
	return l
}

// lies asks what lies on a disk, by the chapter's words: that it is what a store has and says of itself, and that nothing else lies there.
func lies(t *testing.T, d *disk.Disk, s *store.Store, p plain) {
	t.Helper()
	var state level.State
	if b, e := d.Read("man"); e == api.OK {
		state, e = level.Read(b)
		is(t, "Read", e, api.OK)
	}
	if x := s.State(); x.Next != state.Next || x.Log != state.Log || !slices.Equal(x.Files, state.Files) {
		t.Fatalf("State: %v instead of %v", x, state)
	}
	n := 0
	has := plain{}
	all := tables(t, d, state)
	for _, l := range slices.Backward(all) {
		n += len(l)
		has = has.behind(l)
	}
	memory := map[string]int{}
	for _, l := range batches(t, d, state.Log) {
		has = has.behind(l)
		for _, x := range l {
			memory[x.Key]++
		}
	}
	if !maps.Equal(has, p) {
		t.Fatalf("on the disk: %v instead of %v", has, p)
	}
	kept(t, s, n+len(memory))
	whose := len(all) + len(journal.Segments(d))
	if _, e := d.Read("man"); e == api.OK {
		whose++
	}
	if l := d.List(); len(l) != whose {
		t.Fatalf("%q: only %d are somebody's", l, whose)
	}
}

// has asks all that can be asked of what a store has.
func has(t *testing.T, s *store.Store, p plain) {
	t.Helper()
	scanned(t, s, "", "", p.list("", "")...)
	for _, k := range append(keys(), "", "0", "a\x00", "zz", strings.Repeat("m", 101)) {
		v, ok := p[k]
		got(t, s, k, v, ok)
	}
	for _, x := range [][2]string{{"b", ""}, {"", "m"}, {"c", "q"}, {"d", "d"}, {"d", "d\x00"}, {"q", "c"}, {"\xff\xff\xff", ""}, {"e-", "f--"}, {"", "\x00"}} {
		scanned(t, s, x[0], x[1], p.list(x[0], x[1])...)
	}
}

// P13.1: the chapter's example.
func TestExample(t *testing.T) {
	for _, o := range options() {
		d := disk.New(1 << 20)
		s := opened(t, d, o)
		written(t, s, there("a", "1"), there("b", "2"))
		flushed(t, s)
		written(t, s, gone("b"))
		for range 2 {
			got(t, s, "b", "", false)
			scanned(t, s, "", "", there("a", "1"))
			s = opened(t, d, o)
		}
		is(t, "Whole", s.Whole(), api.OK)
		kept(t, s, 1)
		lies(t, d, s, plain{"a": "1"})
	}
}

// P13.1: a table's file: ten digits.
func TestName(t *testing.T) {
	for n, want := range map[int]string{
		0: "tab-0000000000", 1: "tab-0000000001", 10: "tab-0000000010", 1 << 30: "tab-1073741824", 9999999999: "tab-9999999999",
	} {
		if s := store.Name(n); s != want {
			t.Errorf("Name(%d): %q", n, s)
		}
	}
	for _, n := range []int{-1, math.MinInt, math.MaxInt} { // not asked: but it ends
		store.Name(n)
	}
	if store.Manifest != "man" || store.Temp != "man~" {
		t.Error("names")
	}
}

// wrongOptions are those of which one is outside.
func wrongOptions() []store.Options {
	l := []store.Options{{}}
	for _, n := range []int{0, -1, math.MinInt, math.MaxInt} {
		for i := range 5 {
			l = append(l, turned(i, n))
		}
	}
	for i, n := range []int{1<<20 + 1, 1<<14 + 1, 1<<15 + 1, 101, 1<<30 + 1} {
		l = append(l, turned(i, n))
	}
	return l
}

// turned are right options, but for number i of them.
func turned(i, n int) store.Options {
	o := store.Options{Mem: 5, Block: 5, Table: 5, Limits: level.Limits{Count: 5, Size: 5}}
	*[]*int{&o.Mem, &o.Block, &o.Table, &o.Limits.Count, &o.Limits.Size}[i] = n
	return o
}

// P13.1: which options are right.
func TestGood(t *testing.T) {
	for i, o := range options() {
		if !store.Good(o) {
			t.Errorf("options %d", i)
		}
	}
	for i, n := range []int{1 << 20, 1 << 14, 1 << 15, 100, 1 << 30} {
		if !store.Good(turned(i, 1)) || !store.Good(turned(i, n)) {
			t.Errorf("number %d", i)
		}
	}
	d := disk.New(100)
	for i, o := range wrongOptions() {
		if store.Good(o) {
			t.Errorf("wrong options %d", i)
		}
		if s, e := store.Open(d, o); s != nil || e != api.ErrArg {
			t.Errorf("wrong options %d: %v, %d", i, s, e)
		}
	}
}

// many are n entries of short unlike keys.
func many(n int) []api.Entry {
	var l []api.Entry
	for i := range n {
		l = append(l, there(fmt.Sprintf("k%05d", i), "v"))
	}
	return l
}

// wrongBatch is one with its error.
type wrongBatch struct {
	l    []api.Entry
	want api.Errno
}

func wrongBatches() []wrongBatch {
	long, far := strings.Repeat("k", 101), strings.Repeat("v", 4001)
	a := there("a", "1")
	return []wrongBatch{
		{many(257), api.ErrBig}, {many(5000), api.ErrBig},
		{[]api.Entry{{}}, api.ErrForm}, {[]api.Entry{there("", "v")}, api.ErrForm}, {[]api.Entry{gone("")}, api.ErrForm},
		{[]api.Entry{{Key: "k", Value: "v", Gone: true}}, api.ErrForm},
		{[]api.Entry{there(long, "")}, api.ErrBig}, {[]api.Entry{there("k", far)}, api.ErrBig}, {[]api.Entry{gone(long)}, api.ErrBig},
		{[]api.Entry{{Key: long, Value: "v", Gone: true}}, api.ErrForm},
		{[]api.Entry{a, a}, api.ErrDouble}, {[]api.Entry{a, gone("a")}, api.ErrDouble}, {[]api.Entry{a, there("b", ""), there("a", "3")}, api.ErrDouble},
		// Entry by entry: the first one's error; of an entry that of itself goes ahead.
		{[]api.Entry{a, a, {}}, api.ErrDouble}, {[]api.Entry{a, {}, a}, api.ErrForm}, {[]api.Entry{a, there(long, ""), {}}, api.ErrBig},
		{[]api.Entry{a, there("a", far)}, api.ErrBig}, {[]api.Entry{a, {Key: "a", Value: "v", Gone: true}}, api.ErrForm},
		{[]api.Entry{there("k", far), there("k", far)}, api.ErrBig},
		{append(many(256), many(1)...), api.ErrBig}, {append(many(255), many(1)...), api.ErrDouble}, {append([]api.Entry{{}}, many(256)...), api.ErrBig},
	}
}

// P13.1: batches that are right, in any order, and wrong ones.
func TestCheck(t *testing.T) {
	falling := many(256)
	slices.Reverse(falling)
	for i, l := range [][]api.Entry{
		nil, {}, many(1), many(256), falling, {there("b", ""), gone("a"), there("aa", "\x00")},
		{there(strings.Repeat("k", 100), strings.Repeat("v", 4000))}, {there("\x00", ""), there("\xff", ""), there("\x00\x00", "")},
	} {
		if e := store.Check(l); e != api.OK {
			t.Errorf("%d: %d", i, e)
		}
	}
	for i, x := range wrongBatches() {
		if e := store.Check(x.l); e != x.want {
			t.Errorf("wrong batch %d: %d instead of %d", i, e, x.want)
		}
	}
}

// P13.1: what isn't written changes nothing, and is no deed.
func TestWriteErrors(t *testing.T) {
	d := disk.New(1 << 20)
	s := opened(t, d, still())
	written(t, s, there("a", "1"))
	before := files(t, d)
	d.Arm(0)
	for i, x := range wrongBatches() {
		if e := s.Write(x.l); e != x.want {
			t.Errorf("wrong batch %d: %d instead of %d", i, e, x.want)
		}
	}
	for _, l := range [][]api.Entry{wide(4000), wide(3999)} {
		is(t, "Write", s.Write(l), api.ErrBig)
	}
	is(t, "Write of no entries", s.Write(nil), api.OK)
	is(t, "Write of no entries", s.Write([]api.Entry{}), api.OK)
	if d.Dead() || !maps.Equal(files(t, d), before) {
		t.Error("something has changed")
	}
	has(t, s, plain{"a": "1"})
	kept(t, s, 1)
}

// wide is a batch of 17 values of n bytes.
func wide(n int) []api.Entry {
	var l []api.Entry
	for i := range 17 {
		l = append(l, there(string(rune('a'+i)), strings.Repeat("v", n)))
	}
	return l
}

// P13.1: a batch's text has at most MaxText bytes.
func TestWidestBatch(t *testing.T) {
	// Of each entry 3 bytes of the key, 1 of the flag, 3 of the value's length; 2 of the batch.
	l := wide(4000)[:16]
	left := 65536 - 2 - 16*(7+4000)
	l = append(l, there("z", strings.Repeat("w", left-7)))
	d := disk.New(1 << 20)
	s := opened(t, d, still())
	over := slices.Clone(l)
	over[16].Value += "w"
	is(t, "Write", s.Write(over), api.ErrBig)
	if len(d.List()) != 0 {
		t.Error("it was written")
	}
	written(t, s, l...)
	s = opened(t, d, still())
	scanned(t, s, "", "", l...)
	if d.Used() != 65536+8 {
		t.Errorf("%d bytes", d.Used())
	}
}

// P13.1: a batch is one text of the journal, spelt so.
func TestBatchText(t *testing.T) {
	d := disk.New(1 << 20)
	s := opened(t, d, still())
	written(t, s, there("b", "2"), gone("a"), there("c", ""))
	written(t, s, there("a", "1"))
	want := framed(t, "\x01\x03\x01\x01b\x00\x01\x012\x01\x01a\x01\x00\x01\x01c\x00\x00") + framed(t, "\x01\x01\x01\x01a\x00\x01\x011")
	if got := files(t, d); !maps.Equal(got, map[string]string{"log-0000000000": want}) {
		t.Errorf("%q", got)
	}
	l := many(256)
	written(t, s, l...)
	b := framed(t, "\x02\x01\x00"+spelt(l[:255]...)[2:]+spelt(l[255])[2:])
	if files(t, d)["log-0000000000"] != want+b {
		t.Error("256 entries aren't spelt so")
	}
	kept(t, opened(t, d, still()), 259)
}

// P13.1: batches are put into memory again, one behind the other, from the segments from Log on, up to what is torn in each.
func TestOpenBatches(t *testing.T) {
	d := disk.New(1 << 20)
	manifest(t, d, 0, 3)
	old := framed(t, spelt(there("old", "x")))
	laid(t, d, journal.Name(0), old)
	laid(t, d, journal.Name(2), old)
	first := framed(t, spelt(there("a", "1"), there("b", "1"), there("c", "1"))) + framed(t, spelt()) + framed(t, spelt(there("b", "2")))
	laid(t, d, journal.Name(3), first+old[:len(old)-1])
	laid(t, d, journal.Name(4), "torn"+old)
	laid(t, d, journal.Name(7), framed(t, spelt(gone("c"), there("d", "7")))+framed(t, spelt(there("a", "8"))))
	for range 2 {
		s := opened(t, d, options()[1]) // though there is more in memory than there should be, nothing is written
		has(t, s, plain{"a": "8", "b": "2", "d": "7"})
		kept(t, s, 4)
		if l := d.List(); !slices.Equal(l, []string{journal.Name(3), journal.Name(4), journal.Name(7), "man"}) {
			t.Errorf("%q", l)
		}
	}
	s := opened(t, d, still())
	written(t, s, there("c", "9"))
	lies(t, d, s, plain{"a": "8", "b": "2", "c": "9", "d": "7"})
	if b := files(t, d)[journal.Name(8)]; b != framed(t, spelt(there("c", "9"))) {
		t.Errorf("%q", b)
	}
	flushed(t, s)
	lies(t, d, s, plain{"a": "8", "b": "2", "c": "9", "d": "7"})
	if l := d.List(); !slices.Equal(l, []string{"man", store.Name(0)}) {
		t.Errorf("%q", l)
	}
}

// P13.1: what nobody has goes when a store is opened; all else stays, and nothing else is written.
func TestOpenRemoves(t *testing.T) {
	d := disk.New(1 << 20)
	a := sorted(t, d, 4, 0, there("a", "1"))
	b := sorted(t, d, 2, 1, there("b", "2"))
	manifest(t, d, 9, 6, a, b)
	laid(t, d, journal.Name(6), framed(t, spelt(there("c", "3"))))
	others := []string{"log-5", "log-00000000006", "Log-0000000001", "ma", "manx", "~", "tab", "tab_0000000001", "TAB-0000000001", "xtab-0000000001", "other"}
	for _, name := range others {
		laid(t, d, name, "x")
	}
	want := files(t, d)
	nobodys := []string{
		store.Name(0), store.Name(3), store.Name(8), store.Name(9), "tab-", "tab-x", "tab-4", "tab-00000000004", "tab-000000000", "tab-+000000004",
		"man~", journal.Name(0), journal.Name(5),
	}
	for _, name := range nobodys {
		laid(t, d, name, "x")
	}
	d.Arm(len(nobodys)) // each is one deed
	s := opened(t, d, still())
	has(t, s, plain{"a": "1", "b": "2", "c": "3"})
	if !maps.Equal(files(t, d), want) {
		t.Errorf("%q", d.List())
	}
	d.Arm(0)
	s = opened(t, d, still())
	if d.Dead() || !maps.Equal(files(t, d), want) {
		t.Errorf("%q", d.List())
	}
	has(t, s, plain{"a": "1", "b": "2", "c": "3"})
}

// P13.1: opening an empty disk writes nothing; there is nothing in it.
func TestOpenEmpty(t *testing.T) {
	for _, room := range []int{-1, 0, 1, 1000} {
		d := disk.New(room)
		d.Arm(0)
		for _, o := range options() {
			s := opened(t, d, o)
			has(t, s, plain{})
			kept(t, s, 0)
			flushed(t, s)
			stepped(t, s, false)
			is(t, "Whole", s.Whole(), api.OK)
			if x := s.State(); x.Next != 0 || x.Log != 0 || len(x.Files) != 0 {
				t.Errorf("%v", x)
			}
		}
		if d.Dead() || len(d.List()) != 0 {
			t.Error("something was written")
		}
	}
}

// P13.1: what is wrong with what lies there: the first of it is told, and no store.
func TestOpenErrors(t *testing.T) {
	good, _ := level.Bytes(level.State{Next: 1, Log: 1})
	one, _ := table.Make([]api.Entry{there("a", "1")}, 100)
	wrongOf := func(text string) string { return framed(t, text) }
	spoilt := func(s string, at int) string { return s[:at] + string([]byte{s[at] ^ 1}) + s[at+1:] }
	man := func(files ...level.File) string {
		b, e := level.Bytes(level.State{Next: 9, Files: files})
		is(t, "Bytes", e, api.OK)
		return b
	}
	a := level.File{Num: 3, Size: len(one), First: "a", Last: "a"}
	b := level.File{Num: 4, Level: 1, Size: len(one), First: "a", Last: "a"}
	bad := wrongOf("\x09")
	for i, x := range []struct {
		files map[string]string
		want  api.Errno
	}{
		// The state.
		{map[string]string{"man": ""}, api.ErrEnd}, {map[string]string{"man": "12345678"}, api.ErrText}, {map[string]string{"man": spoilt(good, 9)}, api.ErrSum},
		{map[string]string{"man": good + "x"}, api.ErrForm}, {map[string]string{"man": good[:len(good)-1]}, api.ErrEnd}, {map[string]string{"man": wrongOf("\x00")}, api.ErrEnd},
		// The tables.
		{map[string]string{"man": man(a)}, api.ErrNone}, {map[string]string{"man": man(a), "tab-0000000003": "x"}, api.ErrEnd},
		{map[string]string{"man": man(a), "tab-0000000003": spoilt(one, len(one)-4)}, api.ErrSum}, {map[string]string{"man": man(a, b), "tab-0000000003": one}, api.ErrNone},
		{map[string]string{"man": man(a), "tab-0000000003": one[:len(one)-1]}, api.ErrEnd}, {map[string]string{"man": man(a), "tab-3": one}, api.ErrNone},
		{map[string]string{"man": man(a, b), "tab-0000000003": spoilt(one, len(one)-4), "tab-0000000004": "x"}, api.ErrSum},
		// The batches.
		{map[string]string{journal.Name(0): bad}, api.ErrText}, {map[string]string{journal.Name(0): wrongOf("")}, api.ErrEnd},
		{map[string]string{journal.Name(0): wrongOf(spelt() + "x")}, api.ErrForm}, {map[string]string{journal.Name(0): wrongOf(spelt(there("a", "1")) + "\x00")}, api.ErrForm},
		{map[string]string{journal.Name(0): wrongOf("\x01\x02" + spelt(there("a", "1"))[2:])}, api.ErrEnd}, {map[string]string{journal.Name(0): wrongOf("\x02\x01\x01")}, api.ErrBig},
		{map[string]string{journal.Name(0): wrongOf("\x01\x01\x01\x01a\x02\x00")}, api.ErrText}, {map[string]string{journal.Name(0): wrongOf(spelt(there("", "1")))}, api.ErrForm},
		{map[string]string{journal.Name(0): wrongOf(spelt(api.Entry{Key: "a", Value: "1", Gone: true}))}, api.ErrForm},
		{map[string]string{journal.Name(0): wrongOf(spelt(there("a", "1"), there("a", "1")))}, api.ErrDouble},
		{map[string]string{journal.Name(0): wrongOf(spelt(there(strings.Repeat("k", 101), "1")))}, api.ErrBig},
		{map[string]string{journal.Name(4): wrongOf(spelt(there("a", "1"))) + wrongOf(spelt(there("", ""))) + bad}, api.ErrForm},
		// One behind the other.
		{map[string]string{"man": "", journal.Name(0): bad}, api.ErrEnd}, {map[string]string{"man": man(a), journal.Name(0): bad}, api.ErrNone},
		{map[string]string{"man": man(a), "tab-0000000003": one, journal.Name(0): bad}, api.ErrText},
		// What isn't read isn't wrong.
		{map[string]string{"man": good, journal.Name(0): bad, "man~": "x", "tab-0000000003": "x"}, api.OK}, {map[string]string{journal.Name(0): "x" + bad}, api.OK},
		{map[string]string{"man": man(a, b), "tab-0000000003": one, "tab-0000000004": one}, api.OK},
	} {
		d := disk.New(1 << 20)
		for _, name := range slices.Sorted(maps.Keys(x.files)) {
			laid(t, d, name, x.files[name])
		}
		if s, e := store.Open(d, still()); e != x.want || (s == nil) != (e != api.OK) {
			t.Errorf("%d: %v, %d instead of %d", i, s, e, x.want)
		}
	}
}

// P13.1: of each key the newest entry: that in memory, then by the state's order.
func TestNewest(t *testing.T) {
	d := disk.New(1 << 20)
	l := []level.File{
		sorted(t, d, 9, 0, there("a", "9"), gone("b"), there("c", "9")),
		sorted(t, d, 5, 0, there("b", "5"), there("d", "5"), gone("x")),
		sorted(t, d, 7, 1, there("a", "7"), there("e", "7"), gone("h")),
		sorted(t, d, 2, 1, there("i", "2"), gone("w")),
		sorted(t, d, 8, 2, there("d", "8"), there("h", "8"), there("w", "8")),
		sorted(t, d, 0, 3, there("f", "0"), there("i", "0"), there("x", "0"), there("y", "0")),
	}
	manifest(t, d, 10, 0, l...)
	s := opened(t, d, still())
	p := plain{"a": "9", "c": "9", "d": "5", "e": "7", "f": "0", "i": "2", "y": "0"}
	has(t, s, p)
	kept(t, s, 18)
	lies(t, d, s, p)
	written(t, s, gone("a"), there("b", "m"), gone("y"), there("z", "m"), gone("none"))
	p = plain{"b": "m", "c": "9", "d": "5", "e": "7", "f": "0", "i": "2", "z": "m"}
	has(t, s, p)
	kept(t, s, 23)
	scanned(t, s, "a", "d", there("b", "m"), there("c", "9"))
	scanned(t, s, "g", "z", there("i", "2"))
	scanned(t, s, "w", "z")
	scanned(t, s, "x", "", there("z", "m"))
	flushed(t, s)
	has(t, s, p)
	kept(t, s, 23)
	for _, o := range options() {
		s = opened(t, d, o)
		has(t, s, p)
	}
	is(t, "Whole", s.Whole(), api.OK)
	has(t, s, p)
	kept(t, s, 7)
	lies(t, d, s, p)
}

// P13.1: what Flush makes: tables of level 0, of about so many bytes, in blocks of about so many.
func TestFlush(t *testing.T) {
	for _, o := range []store.Options{still(), {Mem: 1 << 20, Block: 50, Table: 200, Limits: still().Limits}, {Mem: 1 << 20, Block: 1, Table: 1, Limits: still().Limits}} {
		d := disk.New(1 << 20)
		s := opened(t, d, o)
		p := plain{}
		for n := range 3 {
			l := append(many(90)[n*10:], gone("gone"))
			written(t, s, l...)
			p = p.behind(l)
			ahead := s.State()
			flushed(t, s)
			state := s.State()
			if len(batches(t, d, 0)) != 0 || state.Log <= ahead.Log {
				t.Errorf("the journal's older segments are there, or count: %v", state)
			}
			var all []api.Entry
			for i, l := range slices.Backward(tables(t, d, state)[:len(state.Files)-len(ahead.Files)]) {
				b, _ := table.Make(l, o.Block)
				if f := state.Files[i]; f.Level != 0 || f.Num < ahead.Next || files(t, d)[store.Name(f.Num)] != b {
					t.Errorf("%v", f)
				}
				if cost(l[:len(l)-1]) >= o.Table || len(all) == 0 && len(l) < 91-n*10 && cost(l) < o.Table {
					t.Errorf("%d bytes, not about %d", cost(l), o.Table)
				}
				all = append(all, l...)
			}
			slices.SortFunc(l, func(a, b api.Entry) int { return strings.Compare(a.Key, b.Key) })
			slices.SortFunc(all, func(a, b api.Entry) int { return strings.Compare(a.Key, b.Key) })
			if !slices.Equal(all, l) {
				t.Errorf("%v", all)
			}
			d.Arm(0) // with nothing in memory it has nothing to do
			flushed(t, s)
			d.Arm(-1)
			lies(t, d, s, p)
		}
		has(t, s, p)
	}
}

func cost(l []api.Entry) int {
	n := 0
	for _, x := range l {
		n += len(x.Key) + len(x.Value) + 8
	}
	return n
}

// P13.1: the journal's older segments go with nothing in memory, too.
func TestFlushOfTornSegments(t *testing.T) {
	d := disk.New(1 << 20)
	laid(t, d, journal.Name(0), "torn")
	laid(t, d, journal.Name(3), "")
	s := opened(t, d, still())
	for range 2 {
		flushed(t, s)
		lies(t, d, s, plain{})
		if l := d.List(); len(l) != 0 {
			t.Errorf("%q", l)
		}
	}
	written(t, s, there("a", "1"))
	lies(t, d, opened(t, d, still()), plain{"a": "1"})
}

// P13.1: Flush and Step are done just when the costs in memory come to Mem.
func TestMem(t *testing.T) {
	o := still()
	o.Mem = 50
	d := disk.New(1 << 20)
	s := opened(t, d, o)
	in := func(n, files int) {
		t.Helper()
		if l := s.State().Files; s.Kept() != n || len(l) != files || (files > 0) != (len(batches(t, d, s.State().Log)) == 0) {
			t.Fatalf("%d, %v", s.Kept(), l)
		}
	}
	written(t, s, there("a", "1"), there("b", "2"), gone("c")) // 10, 10, 9
	in(3, 0)
	written(t, s, there("d", "12345678901")) // 20: one more is wanted
	written(t, s)                            // nothing happens
	in(4, 0)
	written(t, s, there("a", "x")) // no more than it was
	in(4, 0)
	written(t, s, there("b", "")) // less
	in(4, 0)
	written(t, s, gone("d")) // 9
	in(4, 0)
	written(t, s, there("e", "1234")) // 13: 50
	in(5, 1)
	o.Limits.Count = 2
	s = opened(t, d, o)
	written(t, s, there("e", strings.Repeat("e", 40)), there("f", "")) // 49 and 9
	if l := s.State().Files; len(l) != 1 || l[0].Level != 1 {
		t.Errorf("no Step: %v", l)
	}
	has(t, s, plain{"a": "x", "b": "", "e": strings.Repeat("e", 40), "f": ""})
}

// P13.1: what Step does is what Pick says, and it leaves out what is Gone just where Last says so.
func TestStep(t *testing.T) {
	count := map[string]int{}
	for seed := range 60 {
		r := dice(seed)
		d := disk.New(1 << 20)
		o := store.Options{Mem: 1 << 20, Block: 30, Table: 60, Limits: level.Limits{Count: 1 + r.roll(3), Size: 1 + r.roll(200)}}
		s := opened(t, d, o)
		p := plain{}
		for range 60 {
			if r.roll(2) == 0 {
				l := r.batch(9)
				written(t, s, l...)
				p = p.behind(l)
			}
			if r.roll(3) == 0 {
				flushed(t, s)
			}
			ahead := s.State()
			was := tables(t, d, ahead)
			j, want := level.Pick(ahead, o.Limits)
			stepped(t, s, want)
			lies(t, d, s, p)
			if want {
				joined(t, d, ahead, was, s.State(), j, count)
			} else if !slices.Equal(s.State().Files, ahead.Files) {
				t.Fatal("without a job something was done")
			}
		}
		has(t, s, p)
	}
	for _, what := range []string{"level 0", "level 1", "level 2", "dropped", "left", "empty"} {
		if count[what] == 0 {
			t.Errorf("never %s: %v", what, count)
		}
	}
}

// joined asks whether a job was done: its files are gone, what they had stands on the next level.
func joined(t *testing.T, d *disk.Disk, ahead level.State, was [][]api.Entry, behind level.State, j level.Job, count map[string]int) {
	t.Helper()
	newest := map[string]api.Entry{}
	var others []level.File
	for i, f := range slices.Backward(ahead.Files) {
		if !slices.Contains(j.From, f.Num) && !slices.Contains(j.To, f.Num) {
			others = append(others, f)
			continue
		}
		for _, x := range was[i] {
			newest[x.Key] = x
		}
	}
	last := level.Last(ahead, j)
	var want []api.Entry
	for _, k := range slices.Sorted(maps.Keys(newest)) {
		if x := newest[k]; !x.Gone || !last {
			want = append(want, x)
			count["left"] += len(k) * map[bool]int{true: 1}[x.Gone]
		} else {
			count["dropped"]++
		}
	}
	var all []api.Entry
	for i, l := range tables(t, d, behind) {
		if f := behind.Files[i]; f.Num >= ahead.Next {
			all = append(all, l...)
			if f.Level != j.Level+1 {
				t.Fatalf("%v of job %v", f, j)
			}
		} else if !slices.Contains(others, f) {
			t.Fatalf("%v is there, behind %v", f, j)
		} else {
			others = slices.DeleteFunc(others, func(o level.File) bool { return o == f })
		}
	}
	if !slices.Equal(all, want) || len(others) > 0 || behind.Log != ahead.Log {
		t.Fatalf("%v, %v: %v instead of %v; gone: %v", ahead, j, all, want, others)
	}
	count[fmt.Sprint("level ", j.Level)]++
	if len(all) == 0 {
		count["empty"]++
	}
}

// call is one of a store, so that it can be done again.
type call struct {
	what string
	l    []api.Entry
}

func (d *dice) call() call {
	switch n := d.roll(20); {
	case n < 11:
		return call{what: "Write", l: d.batch(5)}
	case n < 14:
		return call{what: "Flush"}
	case n < 17:
		return call{what: "Step"}
	case n < 18:
		return call{what: "Whole"}
	}
	return call{what: "Open"}
}

// behind is what there is behind a call.
func (c call) behind(p plain) plain { return p.behind(c.l) }

// play is a store on a disk, and what it has.
type play struct {
	d *disk.Disk
	o store.Options
	s *store.Store
	p plain
}

func began(t *testing.T, room int, o store.Options) *play {
	t.Helper()
	d := disk.New(room)
	return &play{d: d, o: o, s: opened(t, d, o), p: plain{}}
}

// do is a call, and its error.
func (g *play) do(c call) api.Errno {
	switch c.what {
	case "Write":
		return g.s.Write(c.l)
	case "Flush":
		return g.s.Flush()
	case "Step":
		_, e := g.s.Step()
		return e
	case "Whole":
		return g.s.Whole()
	}
	s, e := store.Open(g.d, g.o)
	if e == api.OK {
		g.s = s
	}
	return e
}

// P13.1: behind any calls a store has just what was written last, and so says the disk.
func TestAnyCalls(t *testing.T) {
	wrong := wrongBatches()
	for seed := range 120 {
		r := dice(seed)
		g := began(t, 1<<20, options()[seed%5])
		for range 80 {
			c := r.call()
			if r.roll(9) == 0 {
				x := wrong[r.roll(len(wrong))]
				is(t, "Write", g.s.Write(x.l), x.want)
			}
			is(t, c.what, g.do(c), api.OK)
			g.p = c.behind(g.p)
			lies(t, g.d, g.s, g.p)
			has(t, g.s, g.p)
			if c.what == "Whole" {
				whole(t, g.d, g.s, g.p)
			}
		}
	}
}

// whole asks what P13.4 says; of Gone ones it is told how many there are.
func whole(t *testing.T, d *disk.Disk, s *store.Store, p plain) int {
	t.Helper()
	state := s.State()
	if len(batches(t, d, state.Log)) != 0 {
		t.Fatal("the memory isn't empty")
	}
	seen := plain{}
	dead := 0
	for i, l := range tables(t, d, state) {
		if state.Files[i].Level != state.Files[0].Level || state.Files[i].Level == 0 {
			t.Fatalf("not on one level: %v", state)
		}
		for _, x := range l {
			if _, twice := seen[x.Key]; twice {
				t.Fatalf("%q stands there twice", x.Key)
			}
			seen[x.Key] = x.Value
			if x.Gone {
				dead++
			} else if v, is := p[x.Key]; !is || v != x.Value {
				t.Fatalf("%v isn't what there is", x)
			}
		}
	}
	if len(seen)-dead != len(p) {
		t.Fatalf("%v instead of %v", seen, p)
	}
	kept(t, s, len(p)+dead)
	return dead
}

// P13.4: all that is Gone goes, on however many levels it stood, and behind Whole there is nothing to do.
func TestWhole(t *testing.T) {
	for seed := range 60 {
		r := dice(seed)
		o := options()[seed%5]
		g := began(t, 1<<20, o)
		for range 40 {
			l := r.batch(9)
			written(t, g.s, l...)
			g.p = g.p.behind(l)
			if r.roll(9) == 0 {
				flushed(t, g.s)
			}
			if r.roll(3) == 0 {
				_, e := g.s.Step()
				is(t, "Step", e, api.OK)
			}
		}
		is(t, "Whole", g.s.Whole(), api.OK)
		whole(t, g.d, g.s, g.p)
		has(t, g.s, g.p)
		before := files(t, g.d)
		g.d.Arm(0)
		is(t, "Whole", g.s.Whole(), api.OK)
		if g.d.Dead() || !maps.Equal(files(t, g.d), before) {
			t.Fatal("there was still something to do")
		}
		g.d.Arm(-1)
		var l []api.Entry
		for k := range g.p {
			l = append(l, gone(k))
		}
		written(t, g.s, l...)
		is(t, "Whole", g.s.Whole(), api.OK)
		if n := whole(t, g.d, g.s, plain{}); n == 0 && len(g.s.State().Files) != 0 {
			t.Fatalf("%v", g.s.State())
		}
	}
}

// P13.4: tables of all levels come to one, from memory on.
func TestWholeOfAllLevels(t *testing.T) {
	for where := range 16 {
		d := disk.New(1 << 20)
		var l []level.File
		p := plain{"z": "m"}
		for at := range 4 {
			if where>>at&1 == 1 {
				v := fmt.Sprint(at)
				entries := []api.Entry{there("a", v), there("b"+v, v), gone("c"), gone("d" + v)}
				l = append(l, sorted(t, d, 9-at, at, entries...))
				p = plain(entriesOf(entries)).behind(p.list("", ""))
			}
		}
		manifest(t, d, 10, 0, l...)
		s := opened(t, d, still())
		written(t, s, there("z", "m"), gone("d0"))
		has(t, s, p)
		is(t, "Whole", s.Whole(), api.OK)
		if n := whole(t, d, s, p); n != 0 {
			t.Errorf("%d: %d are Gone", where, n)
		}
		lies(t, d, s, p)
	}
}

func entriesOf(l []api.Entry) plain { return plain{}.behind(l) }

// P13.4: what is Gone on the level to which all came stays, if the table below that it met was emptied by another job.
func TestWholeLeavesSomeGone(t *testing.T) {
	d := disk.New(1 << 20)
	manifest(t, d, 10, 0,
		sorted(t, d, 5, 1, there("a", "1"), gone("b")),
		sorted(t, d, 2, 1, gone("x"), gone("y")),
		sorted(t, d, 7, 2, gone("b"), there("y", "2")))
	o := still()
	o.Limits.Size = 1
	s := opened(t, d, o)
	kept(t, s, 6)
	stepped(t, s, true) // file 2, of the least number, and 7: all of it is Gone, and on no deeper level
	kept(t, s, 2)
	is(t, "Whole", s.Whole(), api.OK)
	if n := whole(t, d, s, plain{"a": "1"}); n != 1 {
		t.Errorf("%d are Gone", n)
	}
}

// P13.1: State and the lists that are answered are nobody's but the caller's, and what is written isn't kept (K3).
func TestMemory(t *testing.T) {
	d := disk.New(1 << 20)
	s := opened(t, d, still())
	key, kb := lent("key")
	value, vb := lent("value")
	whole := []api.Entry{there(key, value), there("b", "2"), there("spare", "")}
	l := whole[:2]
	written(t, s, l...)
	if whole[2] != there("spare", "") {
		t.Error("the spare room has changed")
	}
	is(t, "Check", store.Check(l), api.OK)
	clear(kb)
	clear(vb)
	clear(whole)
	p := plain{"key": "value", "b": "2"}
	for range 2 { // in memory, and in tables
		scanned(t, s, "", "", p.list("", "")...)
		got(t, s, "key", "value", true)
		x, _ := s.Scan("", "")
		y, _ := s.Scan("", "")
		v, _, _ := s.Get("key")
		w, _, _ := s.Get("key")
		if !own(v, w) || !own(x[1].Value, y[1].Value) || !own(x[1].Key, y[1].Key) || !own(v, x[1].Value) {
			t.Error("answers share memory")
		}
		x[0] = there("x", "y")
		_ = append(x[:0], there("q", "q"))
		if !slices.Equal(y, p.list("", "")) {
			t.Errorf("%v", y)
		}
		flushed(t, s)
	}
	x, y := s.State(), s.State()
	if !own(x.Files[0].First, y.Files[0].First) || !own(x.Files[0].Last, y.Files[0].Last) {
		t.Error("states share memory")
	}
	clear(x.Files)
	lies(t, d, s, p)
	if !slices.Equal(y.Files, s.State().Files) {
		t.Errorf("%v", y)
	}
}

// lent is a text whose bytes can be made others, as those of nobody's memory can't.
func lent(s string) (string, []byte) {
	b := []byte(s)
	return unsafe.String(unsafe.SliceData(b), len(b)), b
}

func own(a, b string) bool { return unsafe.StringData(a) != unsafe.StringData(b) }

// P13.1: the same calls leave the same disk (K4).
func TestSameCalls(t *testing.T) {
	for seed := range 20 {
		var first map[string]string
		for range 4 {
			r := dice(seed)
			g := began(t, 1<<20, options()[seed%5])
			for range 60 {
				is(t, "call", g.do(r.call()), api.OK)
			}
			now := files(t, g.d)
			if first == nil {
				first = now
			}
			if !maps.Equal(first, now) {
				t.Fatalf("%q and %q", first, now)
			}
		}
	}
}

// P13.1: two stores on two disks have nothing in common.
func TestTwoStores(t *testing.T) {
	d, other := disk.New(1<<20), disk.New(1<<20)
	s, x := opened(t, d, options()[1]), opened(t, other, still())
	written(t, s, there("a", "1"))
	written(t, x, there("b", "2"))
	other.Arm(0)
	is(t, "Flush", x.Flush(), api.ErrDead)
	written(t, s, there("c", "3"))
	has(t, s, plain{"a": "1", "c": "3"})
	other.Crash(nil)
	has(t, opened(t, other, still()), plain{"b": "2"})
}

// P13.1: the errors of tables whose blocks are spoilt: of what reads them alone; nothing is changed.
func TestSpoiltBlocks(t *testing.T) {
	d := disk.New(1 << 20)
	o := store.Options{Mem: 40, Block: 1, Table: 100, Limits: level.Limits{Count: 1, Size: 1 << 30}}
	manifest(t, d, 10, 0, sorted(t, d, 5, 0, there("a", strings.Repeat("1", 200)), there("b", strings.Repeat("2", 200)), there("c", "3")), sorted(t, d, 2, 1, there("x", "9")))
	is(t, "Spoil", d.Spoil(store.Name(5), 230, 1), api.OK) // in the block of b
	s := opened(t, d, o)
	got(t, s, "a", strings.Repeat("1", 200), true)
	got(t, s, "c", "3", true)
	got(t, s, "x", "9", true)
	scanned(t, s, "", "a")
	scanned(t, s, "c", "", there("c", "3"), there("x", "9"))
	before := files(t, d)
	if v, ok, e := s.Get("b"); v != "" || ok || e != api.ErrSum {
		t.Errorf("Get: %q, %v, %d", v, ok, e)
	}
	if l, e := s.Scan("", ""); len(l) != 0 || e != api.ErrSum {
		t.Errorf("Scan: %v, %d", l, e)
	}
	if did, e := s.Step(); did || e != api.ErrSum {
		t.Errorf("Step: %v, %d", did, e)
	}
	is(t, "Whole", s.Whole(), api.ErrSum)
	if !maps.Equal(files(t, d), before) {
		t.Error("something has changed")
	}
	written(t, s, there("y", strings.Repeat("y", 50))) // Step's error isn't told
	if n := len(s.State().Files); n != 3 {
		t.Errorf("%d files", n)
	}
	written(t, s, there("b", "new"))
	got(t, s, "b", "new", true) // what is newer is there
	got(t, s, "y", strings.Repeat("y", 50), true)
}

// P13.1: whatever entries there are in memory, tables can be made of them, and put together.
func TestWidestEntries(t *testing.T) {
	for _, o := range []store.Options{still(), {Mem: 1 << 20, Block: 1, Table: 1 << 15, Limits: still().Limits}, {Mem: 1 << 20, Block: 1 << 14, Table: 1 << 15, Limits: still().Limits}} {
		for _, long := range []int{0, 1, 3, 4000} {
			d := disk.New(1 << 24)
			s := opened(t, d, o)
			p := plain{}
			for i := range 3500 {
				key := fmt.Sprintf("%0100d", i)
				if long < 2 {
					key = string([]byte{byte(i >> 8), byte(i)})
				}
				if cost([]api.Entry{there(key, "")})*(i+1)+long*(i+1) > 1<<20-5000 {
					break
				}
				x := there(key, strings.Repeat("v", long))
				written(t, s, x)
				p[key] = x.Value
			}
			flushed(t, s)
			is(t, "Whole", s.Whole(), api.OK)
			whole(t, d, s, p)
			scanned(t, s, "", "", p.list("", "")...)
		}
	}
}
