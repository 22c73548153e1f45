package block_test

import (
	"math"
	"slices"
	"strings"
	"testing"
	"unsafe"

	"chirograph/api"
	"chirograph/block"
	"chirograph/seal"
)

// dice are numbers of all kinds, other ones for each seed.
type dice uint32

func (d *dice) roll(n int) int {
	*d = *d*1664525 + 1013904223
	return int(*d>>8) % n
}

// word is a text of n bytes of a few kinds: many such have bytes in common.
func (d *dice) word(n int) string {
	b := make([]byte, n)
	for i := range b {
		b[i] = "ab\x00\xff"[d.roll(4)]
	}
	return string(b)
}

// list is up to n entries of rising keys.
func (d *dice) list(n int) []api.Entry {
	var l []api.Entry
	for range d.roll(n + 1) {
		x := api.Entry{Key: d.word(1 + d.roll(8)), Gone: d.roll(4) == 0}
		if !x.Gone {
			x.Value = d.word(d.roll(6))
		}
		l = append(l, x)
	}
	slices.SortFunc(l, func(a, b api.Entry) int { return strings.Compare(a.Key, b.Key) })
	return slices.CompactFunc(l, func(a, b api.Entry) bool { return a.Key == b.Key })
}

// numbered is n entries of rising keys of two bytes.
func numbered(n int) []api.Entry {
	var l []api.Entry
	for i := range n {
		l = append(l, api.Entry{Key: string([]byte{byte(i >> 8), byte(i)})})
	}
	return l
}

func is(t *testing.T, what string, got, want api.Errno) {
	t.Helper()
	if got != want {
		t.Fatalf("%s: %d instead of %d", what, got, want)
	}
}

// spelled is a number as bytes, by layer 2's words.
func spelled(n int) string {
	s := ""
	for ; n > 0; n >>= 8 {
		s = string([]byte{byte(n)}) + s
	}
	return string([]byte{byte(len(s))}) + s
}

// text is a text as bytes, by layer 2's words.
func text(s string) string { return spelled(len(s)) + s }

// there is an entry with a value, gone one without, as bytes: how many bytes in common, the rest of the key.
func there(common int, rest, value string) string {
	return spelled(common) + text(rest) + "\x00" + text(value)
}

func gone(common int, rest string) string { return spelled(common) + text(rest) + "\x01" }

// plain is the text of a block of entries, by the chapter's words.
func plain(l []api.Entry) string {
	s := spelled(len(l))
	for i, x := range l {
		n := 0
		if i > 0 {
			for n < len(x.Key) && strings.HasPrefix(l[i-1].Key, x.Key[:n+1]) {
				n++
			}
		}
		if x.Gone {
			s += gone(n, x.Key[n:])
		} else {
			s += there(n, x.Key[n:], x.Value)
		}
	}
	return s
}

func framed(t *testing.T, s string) string {
	t.Helper()
	f, e := seal.Wrap(s)
	is(t, "Wrap", e, api.OK)
	return f
}

func keyed(keys ...string) []api.Entry {
	var l []api.Entry
	for _, key := range keys {
		l = append(l, api.Entry{Key: key})
	}
	return l
}

// wrongList is entries that are no block's, and the error of these.
type wrongList struct {
	l    []api.Entry
	want api.Errno
}

func wrongLists() []wrongList {
	long, much := strings.Repeat("k", 101), strings.Repeat("v", 4001)
	fine := api.Entry{Key: "b", Value: "x"}
	return []wrongList{
		{keyed(""), api.ErrForm},
		{keyed("", "a"), api.ErrForm},
		{[]api.Entry{fine, {}}, api.ErrForm},
		{[]api.Entry{{Value: "x"}}, api.ErrForm},
		{[]api.Entry{{Gone: true}}, api.ErrForm},
		{[]api.Entry{{Key: "a", Value: "x", Gone: true}}, api.ErrForm},
		{[]api.Entry{fine, {Key: "c", Value: "\x00", Gone: true}}, api.ErrForm},
		{keyed(long), api.ErrBig},
		{keyed("a", long), api.ErrBig},
		{keyed(strings.Repeat("k", 1000)), api.ErrBig},
		{[]api.Entry{{Key: long, Gone: true}}, api.ErrBig},
		{[]api.Entry{{Key: "a", Value: much}}, api.ErrBig},
		{[]api.Entry{fine, {Key: "c", Value: strings.Repeat("v", 70000)}}, api.ErrBig},
		{keyed("b", "a"), api.ErrForm},
		{keyed("a", "a"), api.ErrForm},
		{keyed("ab", "a"), api.ErrForm},
		{keyed("a", "B"), api.ErrForm},
		{keyed("\xff", "\x00"), api.ErrForm},
		{keyed("\x80", "z"), api.ErrForm},
		{keyed("a", "b", "c", "b"), api.ErrForm},
		{[]api.Entry{fine, {Key: "b", Gone: true}}, api.ErrForm},
		{numbered(257), api.ErrBig},
		{make([]api.Entry, 257), api.ErrBig},
		{make([]api.Entry, 5000), api.ErrBig},
		// Of one entry the first error.
		{[]api.Entry{{Value: much}}, api.ErrForm},
		{[]api.Entry{{Key: long, Value: "x", Gone: true}}, api.ErrForm},
		{[]api.Entry{{Key: "a", Value: much, Gone: true}}, api.ErrForm},
		{keyed("z", long), api.ErrBig},
		{[]api.Entry{fine, {Key: "b", Value: much}}, api.ErrBig},
		// Of several entries that of the first one that has any.
		{keyed("b", "a", long), api.ErrForm},
		{keyed(long, "a"), api.ErrBig},
		{keyed("b", long, ""), api.ErrBig},
		{[]api.Entry{{Key: "a", Value: much}, {}}, api.ErrBig},
		{[]api.Entry{{}, {Key: "a", Value: much}}, api.ErrForm},
	}
}

// P9.1
func TestCheck(t *testing.T) {
	most := api.Entry{Key: strings.Repeat("k", 100), Value: strings.Repeat("v", 4000)}
	for _, l := range [][]api.Entry{
		nil, {}, keyed("a"), keyed("a", "b"), keyed("\x00"), keyed("\x00", "\x00\x00"), keyed("a", "aa", "ab", "b"),
		keyed("Z", "a", "z", "é", "\xff"), {{Key: "a", Gone: true}}, {{Key: "a", Gone: true}, {Key: "b", Value: "x"}},
		{most}, {{Key: "k"}, most}, {{Key: most.Key, Gone: true}}, numbered(255), numbered(256),
	} {
		is(t, "Check", block.Check(l), api.OK)
	}
	for i, x := range wrongLists() {
		if e := block.Check(x.l); e != x.want {
			t.Errorf("%d: %d instead of %d", i, e, x.want)
		}
	}
	if block.MaxEntries != 256 {
		t.Error("MaxEntries")
	}
}

// P9.1: the chapter's example, and the block of no entries.
func TestExample(t *testing.T) {
	l := []api.Entry{{Key: "aa", Value: "1"}, {Key: "ab", Gone: true}}
	s, e := block.Make(l)
	if want := framed(t, "\x01\x02\x00\x01\x02\x61\x61\x00\x01\x01\x31\x01\x01\x01\x01\x62\x01"); s != want || e != api.OK {
		t.Errorf("%x, %d", s, e)
	}
	for _, l := range [][]api.Entry{nil, {}} {
		if s, e := block.Make(l); s != framed(t, "\x00") || e != api.OK {
			t.Errorf("%x, %d", s, e)
		}
	}
}

// P9.1: a block is the frame of just these bytes.
func TestMake(t *testing.T) {
	most := api.Entry{Key: strings.Repeat("k", 100), Value: strings.Repeat("v", 4000)}
	lists := [][]api.Entry{{most}, {{Key: most.Key[:99] + "j", Gone: true}, most}, numbered(255), numbered(256), keyed("a", "aa", "aaa", "ab", "b")}
	for seed := range 500 {
		r := dice(seed)
		lists = append(lists, r.list(40))
	}
	for _, l := range lists {
		if s, e := block.Make(l); s != framed(t, plain(l)) || e != api.OK {
			t.Fatalf("%v: %q, %d", l, s, e)
		}
	}
}

// P9.1: what Check refuses isn't made.
func TestMakeErrors(t *testing.T) {
	for i, x := range wrongLists() {
		if s, e := block.Make(x.l); s != "" || e != x.want {
			t.Errorf("%d: %.20q, %d instead of %d", i, s, e, x.want)
		}
	}
}

// P9.1: the block's text may have MaxText bytes and no more.
func TestMakeTooBig(t *testing.T) {
	l := numbered(17)
	for i := range l {
		l[i].Value = strings.Repeat("v", 4000)
	}
	at := len(l) - 1
	l[at].Value = ""
	room := api.MaxText - len(plain(l)) - 2 // two bytes more for the value's length
	for n := room - 3; n <= room+3; n++ {
		l[at].Value = strings.Repeat("v", n)
		s, e := block.Make(l)
		switch {
		case n <= room && (e != api.OK || s != framed(t, plain(l))):
			t.Errorf("%d bytes: %d", len(plain(l)), e)
		case n > room && (e != api.ErrBig || s != ""):
			t.Errorf("%d bytes: %d", len(plain(l)), e)
		}
	}
	l = numbered(256)
	for i := range l {
		l[i].Value = strings.Repeat("v", 4000)
	}
	if s, e := block.Make(l); s != "" || e != api.ErrBig {
		t.Errorf("%d", e)
	}
}

// refused asks that nothing is read of some bytes, but an error.
func refused(t *testing.T, s string, want api.Errno) {
	t.Helper()
	if l, n, e := block.Read(s); len(l) != 0 || n != 0 || e != want {
		t.Errorf("%.60q: %v, %d, %d instead of %d", s, l, n, e, want)
	}
}

// refusedTexts asks that of frames of these texts nothing is read, but the error.
func refusedTexts(t *testing.T, all map[api.Errno][]string) {
	t.Helper()
	for want, l := range all {
		for _, s := range l {
			refused(t, framed(t, s), want)
			refused(t, framed(t, s)+"behind", want)
		}
	}
}

// P9.2: each error of a text.
func TestReadErrors(t *testing.T) {
	a, ab, long := there(0, "a", ""), there(0, "ab", ""), strings.Repeat("k", 101)
	refusedTexts(t, map[api.Errno][]string{
		api.ErrEnd: {
			"", "\x01", "\x02\x01", "\x01\x01", "\x01\x02" + a, "\x01\x01\x00", "\x01\x01\x00\x01", "\x01\x01\x00\x01\x02a",
			"\x01\x01\x00\x01\x01a", "\x01\x01\x00\x01\x01a\x00", "\x01\x01\x00\x01\x01a\x00\x01\x02v",
		},
		api.ErrText: {
			"\x09", "\x01\x00", "\x02\x00\x01" + a, "\x08\xff\xff\xff\xff\xff\xff\xff\xff", "\x01\x01\x09", "\x01\x01\x01\x00",
			"\x01\x01\x00\x09", "\x01\x01\x00\x01\x01a\x02", "\x01\x01\x00\x01\x01a\xff", "\x01\x01\x00\x01\x01a\x00\x02\x00\x01v",
		},
		api.ErrBig: { // of reading; then of Check
			"\x02\x01\x01", "\x02\x01\x01" + a, "\x08\x7f\xff\xff\xff\xff\xff\xff\xff", plain(numbered(257)),
			"\x01\x01\x00\x03\x01\x00\x01", "\x01\x01\x00\x01\x01a\x00\x03\x01\x00\x01",
			"\x01\x01" + there(0, long, ""), "\x01\x01" + gone(0, long), "\x01\x02" + there(0, long[:100], "") + there(100, "k", ""),
			"\x01\x01" + there(0, "a", strings.Repeat("v", 4001)),
		},
		api.ErrForm: {
			// More bytes in common than the key ahead has; of the first one 0.
			"\x01\x01" + there(1, "a", ""), "\x01\x01" + gone(1, ""), "\x01\x01" + there(math.MaxInt, "a", ""), "\x01\x02" + ab + there(3, "c", ""),
			"\x01\x02" + a + there(2, "b", ""), "\x01\x02" + a + gone(2, ""), "\x01\x02" + a + there(math.MaxInt, "b", ""),
			// Fewer than there are.
			"\x01\x02" + a + there(0, "ab", ""), "\x01\x02" + a + gone(0, "aa"), "\x01\x02" + ab + there(1, "bc", ""), "\x01\x02" + ab + there(0, "ac", ""),
			"\x01\x02" + a + a,
			// Bytes are left.
			"\x00\x00", "\x01\x01" + a + "\x00", "\x01\x01" + a + there(0, "b", ""),
			// Check's.
			"\x01\x01" + there(0, "", ""), "\x01\x01" + gone(0, ""), "\x01\x02" + there(0, "", "") + there(0, "", ""),
			"\x01\x02" + a + there(1, "", ""), "\x01\x02" + ab + there(1, "", ""), "\x01\x02" + ab + there(1, "a", ""), "\x01\x02" + there(0, "b", "") + a,
		},
	})
}

// P9.2: which error goes ahead of which.
func TestReadOrder(t *testing.T) {
	a, b, long := there(0, "a", ""), there(0, "b", ""), strings.Repeat("k", 101)
	refusedTexts(t, map[api.Errno][]string{
		// An entry is looked at when it was read, ahead of the next one.
		api.ErrEnd:  {"\x01\x01\x01\x05\x01\x01a\x00\x01", "\x01\x02" + a + "\x01\x07\x01\x02b", "\x01\x02" + a + "\x00\x01\x02ab\x00\x01"},
		api.ErrText: {"\x01\x02" + a + "\x01\x07\x01\x01b\x02", "\x01\x01\x01\x05\x01\x01a\x03", "\x01\x02" + a + "\x00\x01\x02ab\x09"},
		api.ErrForm: {
			"\x01\x03" + there(1, "b", ""), "\x01\x03" + a + there(2, "b", "") + "\x00", "\x01\x03" + a + there(0, "ab", "") + "\x09",
			"\x01\x03" + a + there(2, "b", "") + there(0, long, ""),
		},
	})
	refusedTexts(t, map[api.Errno][]string{
		// What Check looks at comes behind all else.
		api.ErrEnd:  {"\x01\x02" + there(0, "", "") + "\x00", "\x01\x02" + gone(0, long) + "\x00\x01", "\x01\x03" + b + a + "\x00\x01"},
		api.ErrText: {"\x01\x02" + there(0, "", "") + "\x09", "\x01\x02" + gone(0, long) + "\x00\x01\x01a\x02", "\x01\x03" + b + a + "\x00\x01\x01a\x02"},
		api.ErrForm: {
			"\x01\x01" + there(0, long, "") + "\x00", "\x01\x02" + b + a + "\x00", "\x01\x03" + b + a + there(0, long, ""),
			"\x01\x03" + there(0, long, "") + a + there(2, "b", ""),
		},
		api.ErrBig: {"\x01\x02" + b + there(0, long, ""), "\x01\x02" + b + there(0, "a", strings.Repeat("v", 4001)), "\x01\x03" + there(0, long, "") + b + a},
	})
}

// P9.2: what is right is read; behind a block anything may stand.
func TestRead(t *testing.T) {
	most := api.Entry{Key: strings.Repeat("k", 100), Value: strings.Repeat("v", 4000)}
	for _, l := range [][]api.Entry{
		nil, keyed("a"), {{Key: "a", Gone: true}}, {most}, {{Key: most.Key[:99], Gone: true}, most}, numbered(256), keyed("\x00", "\x00\x00", "\xff"),
	} {
		f := framed(t, plain(l))
		for _, behind := range []string{"", "\x00", "x", f, strings.Repeat("\xff", 70000)} {
			if m, n, e := block.Read(f + behind); !slices.Equal(l, m) || n != len(f) || e != api.OK {
				t.Errorf("%v: %v, %d, %d", l, m, n, e)
			}
		}
	}
}

// P9.2: a frame that is none, that is cut off, that is spoilt.
func TestReadFrame(t *testing.T) {
	f := framed(t, plain([]api.Entry{{Key: "aa", Value: "1"}, {Key: "ab", Gone: true}}))
	for n := range f {
		refused(t, f[:n], api.ErrEnd)
	}
	for at := range f {
		for x := 1; x < 256; x++ {
			b := []byte(f)
			b[at] ^= byte(x)
			_, _, want := seal.Open(string(b))
			if want == api.OK {
				t.Fatalf("byte %d xor %d is opened", at, x)
			}
			refused(t, string(b), want)
		}
	}
	refused(t, "\x00"+f, api.ErrText)
	refused(t, strings.Repeat("x", 100), api.ErrText)
}

// hand reads bytes as the chapters' words say, one behind the other.
type hand struct {
	s string
	e api.Errno
}

func (h *hand) number(most int) int {
	if h.e != api.OK {
		return 0
	}
	if h.s == "" {
		h.e = api.ErrEnd
		return 0
	}
	n, size := 0, int(h.s[0])
	h.s = h.s[1:]
	switch {
	case size > 8:
		h.e = api.ErrText
	case size > len(h.s):
		h.e = api.ErrEnd
	case size > 0 && h.s[0] == 0, size == 8 && h.s[0] > 127:
		h.e = api.ErrText
	default:
		for _, c := range []byte(h.s[:size]) {
			n = 256*n + int(c)
		}
		if h.s = h.s[size:]; n > most {
			h.e = api.ErrBig
		}
	}
	return n
}

func (h *hand) text() string {
	n := h.number(65536)
	if h.e == api.OK && n > len(h.s) {
		h.e = api.ErrEnd
	}
	if h.e != api.OK {
		return ""
	}
	s := h.s[:n]
	h.s = h.s[n:]
	return s
}

func (h *hand) flag() bool {
	if h.e == api.OK && h.s == "" {
		h.e = api.ErrEnd
	} else if h.e == api.OK && h.s[0] > 1 {
		h.e = api.ErrText
	}
	if h.e != api.OK {
		return false
	}
	is := h.s[0] == 1
	h.s = h.s[1:]
	return is
}

// wanted is what a block's text says, by the chapter's words.
func wanted(s string) ([]api.Entry, api.Errno) {
	h := &hand{s: s}
	count := h.number(256)
	var l []api.Entry
	key := ""
	for i := 0; i < count && h.e == api.OK; i++ {
		n, rest, gone, value := h.number(math.MaxInt), h.text(), h.flag(), ""
		if !gone {
			value = h.text()
		}
		if h.e != api.OK {
			break
		}
		if n > len(key) || n < len(key) && rest != "" && key[n] == rest[0] {
			return nil, api.ErrForm
		}
		key = key[:n] + rest
		l = append(l, api.Entry{Key: key, Value: value, Gone: gone})
	}
	if h.e != api.OK {
		return nil, h.e
	}
	if h.s != "" {
		return nil, api.ErrForm
	}
	if e := block.Check(l); e != api.OK {
		return nil, e
	}
	return l, api.OK
}

// anyText is the text of a block in which a few bytes are others, or more, or fewer.
func anyText(r *dice) string {
	b := []byte(plain(r.list(5)))
	for range r.roll(4) {
		at := r.roll(len(b))
		switch r.roll(4) {
		case 0:
			b[at] = byte(r.roll(4))
		case 1:
			b[at] = byte(r.roll(256))
		case 2:
			b = slices.Insert(b, at, byte(r.roll(3)))
		default:
			b = b[:max(1, at)]
		}
	}
	return string(b)
}

// P9.2, P9.3: of any bytes: what the chapter's words say; and what is read has these bytes and no other ones.
func TestReadAny(t *testing.T) {
	count := map[api.Errno]int{}
	for seed := range 60000 {
		r := dice(seed)
		s := anyText(&r)
		f := framed(t, s)
		l, n, e := block.Read(f + "x")
		m, want := wanted(s)
		if e != want || !slices.Equal(l, m) {
			t.Fatalf("%q: %v, %d instead of %v, %d", s, l, e, m, want)
		}
		count[e]++
		if e != api.OK {
			if n != 0 {
				t.Fatalf("%q: %d bytes beside %d", s, n, e)
			}
			continue
		}
		if again, e := block.Make(l); again != f || n != len(f) || e != api.OK {
			t.Fatalf("%v: %v, %d, %d", s, again, n, e)
		}
	}
	for _, e := range []api.Errno{api.OK, api.ErrEnd, api.ErrText, api.ErrForm, api.ErrBig} {
		if count[e] < 500 {
			t.Errorf("%d but %d times", e, count[e])
		}
	}
}

// P9.2: long keys that grow from entry to entry: it ends, and they are too big.
func TestReadGrowing(t *testing.T) {
	s := "\x02\x01\x00" + there(0, strings.Repeat("k", 60000), "")
	for i := range 255 {
		s += there(60000+i, "k", "")
	}
	refused(t, framed(t, s), api.ErrBig)
}

// P9.3: there and back.
func TestThereAndBack(t *testing.T) {
	for seed := range 1000 {
		r := dice(seed)
		l := r.list(300)
		l = l[:min(len(l), 256)]
		s, e := block.Make(l)
		is(t, "Make", e, api.OK)
		for _, behind := range []string{"", s} {
			if m, n, e := block.Read(s + behind); !slices.Equal(l, m) || n != len(s) || e != api.OK {
				t.Fatalf("%v: %v, %d, %d", l, m, n, e)
			}
		}
	}
}

// P9.4: as in a list that is gone through from the beginning on.
func TestSeekAndFind(t *testing.T) {
	found := 0
	for seed := range 2000 {
		r := dice(seed)
		l := r.list(20)
		keys := []string{"", "a", r.word(3), r.word(9), strings.Repeat("\xff", 101)}
		for _, x := range l {
			keys = append(keys, x.Key, x.Key+"\x00", x.Key[:len(x.Key)-1])
		}
		for _, key := range keys {
			at := 0
			for at < len(l) && l[at].Key < key {
				at++
			}
			want, there := api.Entry{}, at < len(l) && l[at].Key == key
			if there {
				want = l[at]
				found++
			}
			if n := block.Seek(l, key); n != at {
				t.Fatalf("%v: %q at %d instead of %d", l, key, n, at)
			}
			if x, ok := block.Find(l, key); x != want || ok != there {
				t.Fatalf("%v, %q: %v, %v", l, key, x, ok)
			}
		}
	}
	if found < 1000 {
		t.Errorf("%d were found", found)
	}
}

// P9.4: the edges; and lists of any size, of any entries: these calls end.
func TestSeekEdges(t *testing.T) {
	for _, l := range [][]api.Entry{nil, {}} {
		for _, key := range []string{"", "a"} {
			if x, ok := block.Find(l, key); block.Seek(l, key) != 0 || ok || x != (api.Entry{}) {
				t.Errorf("%q of nothing", key)
			}
		}
	}
	l := numbered(5000)
	for i, x := range l {
		if y, ok := block.Find(l, x.Key); block.Seek(l, x.Key) != i || !ok || x != y {
			t.Fatalf("%d", i)
		}
	}
	slices.Reverse(l)
	for _, l := range [][]api.Entry{l, keyed("b", "a", "b", "", "c"), make([]api.Entry, 7)} {
		for _, key := range []string{"", "a", "b", "c", "d"} {
			if at := block.Seek(l, key); at < 0 || at > len(l) {
				t.Errorf("%q: %d", key, at)
			}
			block.Find(l, key)
		}
	}
}

// lent is a text whose bytes can be made others, as those of nobody's memory can't.
func lent(s string) (string, []byte) {
	b := []byte(s)
	return unsafe.String(unsafe.SliceData(b), len(b)), b
}

// P9.1 to P9.4: what is handed in isn't changed or kept, and answers are nobody's but the caller's (K3).
func TestMemory(t *testing.T) {
	l := []api.Entry{{Key: "a", Value: "1"}, {Key: "ab", Value: "2"}, {Key: "b", Gone: true}, {Key: "spare"}}
	twin := slices.Clone(l)
	s, _ := block.Make(l[:3])
	block.Check(l[:3])
	block.Seek(l[:3], "ab")
	if !slices.Equal(l, twin) {
		t.Errorf("%v", l)
	}
	f, b := lent(s)
	m, _, _ := block.Read(f)
	again, _, _ := block.Read(f)
	clear(b)
	if !slices.Equal(m, l[:3]) {
		t.Errorf("Read keeps what was handed in: %v", m)
	}
	m[0], m[1] = api.Entry{}, api.Entry{}
	if !slices.Equal(again, l[:3]) {
		t.Errorf("two answers share memory: %v", again)
	}
	key, kb := lent("ab")
	value, vb := lent("value")
	x, _ := block.Find([]api.Entry{{Key: key, Value: value}}, key)
	clear(kb)
	clear(vb)
	if x.Key != "ab" || x.Value != "value" {
		t.Errorf("Find shares memory: %v", x)
	}
}
