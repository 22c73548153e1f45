package level_test

import (
	"math"
	"slices"
	"strings"
	"testing"
	"unsafe"

	"chirograph/api"
	"chirograph/level"
	"chirograph/seal"
)

// dice are numbers of all kinds, other ones for each seed.
type dice uint32

func (d *dice) roll(n int) int {
	*d = *d*1664525 + 1013904223
	return int(*d>>8) % n
}

// word is a text of 1 to 3 small letters, of which few are alike.
func (d *dice) word() string {
	b := make([]byte, 1+d.roll(3))
	for i := range b {
		b[i] = byte('a' + d.roll(26))
	}
	return string(b)
}

func (d *dice) span() (string, string) {
	a, b := d.word(), d.word()
	return min(a, b), max(a, b)
}

// cuts are up to n spans, none of which meets another one, rising.
func (d *dice) cuts(n int) [][2]string {
	var words []string
	for range 2 * d.roll(n+1) {
		words = append(words, d.word())
	}
	slices.Sort(words)
	words = slices.Compact(words)
	var l [][2]string
	for len(words) > 1 {
		if d.roll(3) == 0 {
			l = append(l, [2]string{words[0], words[0]})
			words = words[1:]
			continue
		}
		l = append(l, [2]string{words[0], words[1]})
		words = words[2:]
	}
	return l
}

// shuffled are the numbers below n, in any order.
func (d *dice) shuffled(n int) []int {
	var l []int
	for i := range n {
		l = slices.Insert(l, d.roll(i+1), i)
	}
	return l
}

// state is a right one with up to n files on a level.
func (d *dice) state(n int) level.State {
	var files []level.File
	for range d.roll(n + 1) {
		first, last := d.span()
		files = append(files, level.File{First: first, Last: last})
	}
	for at := 1; at < 4; at++ {
		if d.roll(4) == 0 {
			continue
		}
		for _, x := range d.cuts(n) {
			files = append(files, level.File{Level: at, First: x[0], Last: x[1]})
		}
	}
	// More numbers than files: some went.
	named := d.shuffled(len(files) + d.roll(4))
	for i := range files {
		files[i].Num, files[i].Size = named[i], d.roll(30)
	}
	newest := 0
	for newest < len(files) && files[newest].Level == 0 {
		newest++
	}
	slices.SortFunc(files[:newest], func(a, b level.File) int { return b.Num - a.Num })
	return level.State{Next: len(named), Log: d.roll(300), Files: files}
}

func is(t *testing.T, what string, got, want api.Errno) {
	t.Helper()
	if got != want {
		t.Fatalf("%s: %d instead of %d", what, got, want)
	}
}

func same(a, b level.State) bool {
	return a.Next == b.Next && a.Log == b.Log && slices.Equal(a.Files, b.Files)
}

func alike(a, b level.Job) bool {
	return a.Level == b.Level && slices.Equal(a.From, b.From) && slices.Equal(a.To, b.To)
}

// file is one of a level from a key to another one.
func file(num, at int, first, last string) level.File {
	return level.File{Num: num, Level: at, First: first, Last: last}
}

// of is a state of files, with a next number above all of theirs.
func of(files ...level.File) level.State { return level.State{Next: 1000000, Files: files} }

// many is n files of level 0, of keys of so many bytes.
func many(n, long int) []level.File {
	var l []level.File
	for i := range n {
		l = append(l, file(n-1-i, 0, strings.Repeat("k", long), strings.Repeat("k", long)))
	}
	return l
}

const most = 1 << 30

// long is a key that is too long by one byte; fit one that isn't.
func long() string { return strings.Repeat("k", 101) }
func fit() string  { return strings.Repeat("k", 100) }

// P11.1: states that are right.
func TestCheckRight(t *testing.T) {
	for i, s := range []level.State{
		{}, {Next: most, Log: most}, {Log: 3}, {Files: []level.File{}}, {Next: 1, Files: []level.File{file(0, 0, "a", "a")}},
		{Next: most, Files: []level.File{{Num: most - 1, Level: 3, Size: most, First: fit(), Last: fit()}}},
		of(file(3, 0, "a", "z"), file(2, 0, "a", "z"), file(0, 0, "m", "n")), // those of level 0 may meet
		of(file(0, 1, "a", "z"), file(3, 2, "a", "z"), file(1, 3, "a", "z")), // and those of unlike levels
		of(file(0, 0, "x", "z"), file(9, 1, "a", "c"), file(5, 1, "c\x00", "c\x00"), file(7, 1, "d", "d"), file(1, 3, "\x00", "\xff")),
		of(many(1000, 100)...),
	} {
		if e := level.Check(s); e != api.OK {
			t.Errorf("%d: %d", i, e)
		}
	}
}

// wrong is a state that isn't right, and its error.
type wrong struct {
	s    level.State
	want api.Errno
}

func wrongs() []wrong {
	a, z := file(5, 0, "a", "a"), file(1, 3, "z", "z")
	l := []wrong{
		{level.State{Next: -1}, api.ErrArg}, {level.State{Next: most + 1}, api.ErrArg}, {level.State{Log: -1}, api.ErrArg},
		{level.State{Log: most + 1}, api.ErrArg}, {level.State{Next: math.MaxInt}, api.ErrArg}, {level.State{Log: math.MinInt}, api.ErrArg},
		{of(many(1001, 1)...), api.ErrBig},
		{level.State{Next: 5, Files: []level.File{a}}, api.ErrArg}, {level.State{Files: []level.File{file(0, 0, "a", "a")}}, api.ErrArg},
		// In order it isn't.
		{of(z, a), api.ErrForm}, {of(file(2, 0, "a", "b"), file(3, 0, "c", "d")), api.ErrForm}, {of(file(2, 1, "c", "d"), file(3, 1, "a", "b")), api.ErrForm},
		{of(file(2, 3, "c", "d"), file(3, 2, "e", "f")), api.ErrForm}, {of(file(2, 1, "a", "b"), file(3, 1, "a", "b")), api.ErrForm},
		{of(file(2, 1, "a", "a"), file(3, 1, "a", "a")), api.ErrForm}, {of(file(2, 2, "a", "a"), file(3, 2, "a", "c")), api.ErrForm},
		// They meet.
		{of(file(2, 1, "a", "b"), file(3, 1, "b", "c")), api.ErrForm}, {of(file(2, 1, "a", "z"), file(3, 1, "b", "c")), api.ErrForm},
		{of(file(2, 3, "a", "c"), file(3, 3, "b", "d")), api.ErrForm}, {of(file(2, 2, "a", "bb"), file(3, 2, "b", "d")), api.ErrForm},
		// A number twice.
		{of(a, a), api.ErrForm}, {of(file(2, 0, "a", "a"), file(2, 0, "b", "b")), api.ErrForm}, {of(file(2, 0, "a", "a"), file(2, 1, "b", "b")), api.ErrForm},
		{of(file(2, 1, "a", "a"), file(4, 1, "b", "b"), file(2, 3, "c", "c")), api.ErrForm},
	}
	for _, x := range []struct {
		f    level.File
		want api.Errno
	}{
		{file(-1, 0, "a", "a"), api.ErrArg}, {file(1000000, 0, "a", "a"), api.ErrArg}, {file(0, -1, "a", "a"), api.ErrArg}, {file(0, 4, "a", "a"), api.ErrArg},
		{level.File{Size: -1, First: "a", Last: "a"}, api.ErrArg}, {level.File{Size: most + 1, First: "a", Last: "a"}, api.ErrArg},
		{file(0, 0, "", "a"), api.ErrForm}, {file(0, 0, "", ""), api.ErrForm}, {file(0, 0, "a", ""), api.ErrForm}, {file(0, 0, "b", "a"), api.ErrForm},
		{file(0, 0, "aa", "a"), api.ErrForm}, {file(0, 0, "\x80", "z"), api.ErrForm}, {file(0, 0, long(), long()), api.ErrForm},
		{file(0, 0, "a", long()), api.ErrForm}, {file(0, 0, long(), "z"), api.ErrForm},
		// Numbers are looked at ahead of keys.
		{file(-1, 0, "", "a"), api.ErrArg}, {file(0, 4, "b", "a"), api.ErrArg}, {level.File{Size: -1}, api.ErrArg},
	} {
		l = append(l, wrong{of(x.f), x.want})
		// Behind another file, and ahead of one.
		l = append(l, wrong{of(a, x.f), x.want}, wrong{of(x.f, z), x.want})
	}
	return l
}

// P11.1: each error.
func TestCheckWrong(t *testing.T) {
	for i, x := range wrongs() {
		if e := level.Check(x.s); e != x.want {
			t.Errorf("%d: %v: %d instead of %d", i, x.s, e, x.want)
		}
	}
}

// P11.1: which error goes ahead of which.
func TestCheckOrder(t *testing.T) {
	big := many(1001, 1)
	big[0].Num = -1
	a := file(5, 0, "a", "a")
	for i, x := range []wrong{
		{level.State{Next: -1, Files: big}, api.ErrArg}, {level.State{Log: -1, Files: big}, api.ErrArg}, {of(big...), api.ErrBig},
		{of(file(0, 0, "", ""), file(-1, 0, "a", "a")), api.ErrForm}, {of(file(-1, 0, "a", "a"), file(0, 0, "", "")), api.ErrArg},
		{of(a, file(5, 4, "a", "a")), api.ErrArg}, {of(file(5, 1, "a", "a"), file(-1, 0, "a", "a")), api.ErrArg},
		{of(a, a, file(0, 4, "a", "a")), api.ErrForm}, {of(file(5, 1, "a", "c"), file(6, 1, "b", "d"), file(-1, 1, "e", "e")), api.ErrForm},
		{of(file(5, 1, "a", "c"), file(6, 0, "b", "d"), file(7, 1, "e", "f")), api.ErrForm},
	} {
		if e := level.Check(x.s); e != x.want {
			t.Errorf("%d: %d instead of %d", i, e, x.want)
		}
	}
}

// wanted is the error of a state, by the chapter's words.
func wanted(s level.State) api.Errno {
	in := func(n, most int) bool { return 0 <= n && n <= most }
	if !in(s.Next, most) || !in(s.Log, most) {
		return api.ErrArg
	}
	if len(s.Files) > 1000 {
		return api.ErrBig
	}
	for i, f := range s.Files {
		if !in(f.Num, s.Next-1) || !in(f.Level, 3) || !in(f.Size, most) {
			return api.ErrArg
		}
		for _, key := range []string{f.First, f.Last} {
			if len(key) < 1 || len(key) > 100 {
				return api.ErrForm
			}
		}
		if f.First > f.Last {
			return api.ErrForm
		}
		for _, g := range s.Files[:i] {
			// Whatever stands ahead of a file does so rightly.
			if g.Num == f.Num || g.Level > f.Level || g.Level == f.Level && (f.Level == 0 && g.Num < f.Num || f.Level > 0 && g.Last >= f.First) {
				return api.ErrForm
			}
		}
	}
	return api.OK
}

// spoil makes one thing of a state another one.
func (d *dice) spoil(s *level.State) {
	switch {
	case d.roll(8) == 0:
		s.Next += d.roll(9) - 7
		return
	case d.roll(20) == 0:
		s.Log = -s.Log
		return
	case len(s.Files) == 0:
		return
	}
	at := d.roll(len(s.Files))
	f := &s.Files[at]
	switch d.roll(7) {
	case 0:
		f.Num += d.roll(5) - 2
	case 1:
		f.Level += d.roll(3) - 1
	case 2:
		f.Size -= d.roll(30)
	case 3:
		f.First = strings.Repeat(d.word(), d.roll(2))
	case 4:
		f.Last = strings.Repeat(d.word(), []int{0, 1, 1, 1, 101}[d.roll(5)])
	case 5:
		other := d.roll(len(s.Files))
		s.Files[at], s.Files[other] = s.Files[other], s.Files[at]
	default:
		s.Files = slices.Insert(s.Files, d.roll(len(s.Files)+1), *f)
	}
}

// P11.1: of any states.
func TestCheckAny(t *testing.T) {
	count := map[api.Errno]int{}
	for seed := range 30000 {
		r := dice(seed)
		s := r.state(5)
		is(t, "a right state", level.Check(s), api.OK)
		for range 1 + r.roll(2) {
			r.spoil(&s)
		}
		want := wanted(s)
		if e := level.Check(s); e != want {
			t.Fatalf("%v: %d instead of %d", s, e, want)
		}
		count[want]++
	}
	for _, e := range []api.Errno{api.OK, api.ErrArg, api.ErrForm} {
		if count[e] < 1000 {
			t.Errorf("%d but %d times", e, count[e])
		}
	}
}

// spelled is a number as bytes, by layer 2's words.
func spelled(n int) string {
	s := ""
	for ; n > 0; n >>= 8 {
		s = string([]byte{byte(n)}) + s
	}
	return string([]byte{byte(len(s))}) + s
}

// text is a text as bytes, by layer 2's words.
func text(s string) string { return spelled(len(s)) + s }

// row is a file as bytes.
func row(f level.File) string {
	return spelled(f.Num) + spelled(f.Level) + spelled(f.Size) + text(f.First) + text(f.Last)
}

// plain is a state's text, by the chapter's words.
func plain(s level.State) string {
	var b strings.Builder
	b.WriteString(spelled(s.Next) + spelled(s.Log) + spelled(len(s.Files)))
	for _, f := range s.Files {
		b.WriteString(row(f))
	}
	return b.String()
}

func framed(t *testing.T, s string) string {
	t.Helper()
	f, e := seal.Wrap(s)
	is(t, "Wrap", e, api.OK)
	return f
}

// P11.1: the bytes of a state, by hand; and the state of them.
func TestBytes(t *testing.T) {
	s := level.State{Next: 300, Log: 2, Files: []level.File{{Num: 299, Size: 5, First: "a", Last: "bc"}, {Num: 1, Level: 3, Size: 256, First: "b", Last: "b"}}}
	want := "\x02\x01\x2c" + "\x01\x02" + "\x01\x02" + "\x02\x01\x2b" + "\x00" + "\x01\x05" + "\x01\x01a" + "\x01\x02bc" + "\x01\x01" + "\x01\x03" + "\x02\x01\x00" + "\x01\x01b" + "\x01\x01b"
	if b, e := level.Bytes(s); b != framed(t, want) || e != api.OK {
		t.Errorf("%q, %d", b, e)
	}
	if u, e := level.Read(framed(t, want)); !same(s, u) || e != api.OK {
		t.Errorf("%v, %d", u, e)
	}
	if b, e := level.Bytes(level.State{}); b != framed(t, "\x00\x00\x00") || e != api.OK {
		t.Errorf("%q, %d", b, e)
	}
}

// P11.1: no bytes of what isn't right.
func TestBytesWrong(t *testing.T) {
	for i, x := range wrongs() {
		if b, e := level.Bytes(x.s); b != "" || e != x.want {
			t.Errorf("%d: %q, %d instead of %d", i, b, e, x.want)
		}
	}
}

// P11.1: the text may have MaxText bytes and no more.
func TestBytesTooBig(t *testing.T) {
	all := many(1000, 40)
	n := 1
	for len(plain(of(all[:n+1]...))) <= api.MaxText {
		n++
	}
	s := of(all[:n]...)
	f := &s.Files[n-1]
	seen := 0
	for long := 2; long <= 200; long++ {
		f.First, f.Last = strings.Repeat("k", long/2), strings.Repeat("k", long-long/2)
		b, e := level.Bytes(s)
		switch size := len(plain(s)); {
		case size <= api.MaxText && (e != api.OK || b != framed(t, plain(s))):
			t.Errorf("%d bytes: %d", size, e)
		case size > api.MaxText && (e != api.ErrBig || b != ""):
			t.Errorf("%d bytes: %d", size, e)
		case size == api.MaxText, size == api.MaxText+1:
			seen++
		}
	}
	if seen != 2 {
		t.Errorf("the edge was met %d times", seen)
	}
	if b, e := level.Bytes(of(many(1000, 100)...)); b != "" || e != api.ErrBig {
		t.Errorf("%d", e)
	}
}

// refused asks that nothing is read of some bytes, but an error.
func refused(t *testing.T, b string, want api.Errno) {
	t.Helper()
	if s, e := level.Read(b); !same(s, level.State{}) || e != want {
		t.Errorf("%.60q: %v, %d instead of %d", b, s, e, want)
	}
}

// P11.1: a frame that is none, that is cut off, that is spoilt, behind which something stands.
func TestReadFrame(t *testing.T) {
	f := framed(t, plain(level.State{Next: 3, Log: 1, Files: []level.File{file(2, 0, "a", "b"), file(0, 1, "c", "d")}}))
	for n := range f {
		refused(t, f[:n], api.ErrEnd)
	}
	for at := range f {
		for x := 1; x < 256; x++ {
			b := []byte(f)
			b[at] ^= byte(x)
			_, _, want := seal.Open(string(b))
			if want == api.OK {
				t.Fatalf("byte %d xor %d is opened", at, x)
			}
			refused(t, string(b), want)
		}
	}
	for _, behind := range []string{"\x00", "x", f, strings.Repeat("\xff", 70000)} {
		refused(t, f+behind, api.ErrForm)
		// Ahead of what the frame's text says.
		refused(t, framed(t, "\x09")+behind, api.ErrForm)
		refused(t, framed(t, "")+behind, api.ErrForm)
	}
	refused(t, "\x00"+f, api.ErrText)
	refused(t, strings.Repeat("x", 100), api.ErrText)
}

// P11.1: each error of a text, and which goes ahead of which.
func TestReadErrors(t *testing.T) {
	a := row(file(0, 0, "a", "a"))
	for want, l := range map[api.Errno][]string{
		api.ErrEnd: {
			"", "\x01", "\x00", "\x00\x00", "\x00\x00\x01", "\x01\x01\x00\x01\x01", "\x01\x01\x00\x01\x01" + a[:len(a)-1], "\x01\x02\x00\x01\x02" + a,
			// Ahead of Check's.
			"\x01\x01\x00\x01\x02" + row(file(5, 7, "", "")),
		},
		api.ErrText: {
			"\x09", "\x00\x09", "\x00\x00\x09", "\x01\x00\x00\x00", "\x00\x02\x00\x01\x00", "\x00\x00\x01\x00", "\x01\x01\x00\x01\x01\x01\x00" + a[1:],
			"\x00\x00\x08\xff\xff\xff\xff\xff\xff\xff\xff", "\x01\x01\x00\x01\x02" + row(file(5, 7, "", "")) + "\x09",
		},
		api.ErrBig: {
			"\x00\x00\x02\x03\xe9", "\x00\x00\x08\x7f\xff\xff\xff\xff\xff\xff\xff", "\x08\x7f\xff\xff\xff\xff\xff\xff\xff" + "\x00\x02\x03\xe9",
			"\x00\x00\x02\x03\xe9\x00", "\x01\x01\x00\x01\x01\x00\x00\x00\x03\x01\x00\x01",
		},
		api.ErrForm: {
			"\x00\x00\x00\x00", "\x01\x01\x00\x01\x01" + a + "\x00", "\x01\x01\x00\x00" + a,
			// Ahead of Check's.
			"\x05\x01\x00\x00\x00\x00\x00\x00x", "\x01\x01\x00\x01\x01" + row(file(5, 7, "a", "a")) + "x",
		},
	} {
		for _, s := range l {
			refused(t, framed(t, s), want)
		}
	}
	for _, x := range wrongs() {
		if s := x.s; s.Next < 0 || s.Log < 0 || len(s.Files) > 1000 || slices.ContainsFunc(s.Files, func(f level.File) bool { return min(f.Num, f.Level, f.Size) < 0 }) {
			continue // there are no such bytes
		}
		refused(t, framed(t, plain(x.s)), x.want)
	}
	refused(t, framed(t, plain(of(many(1001, 1)...))), api.ErrBig)
}

// P11.1: of any texts: what is read has these bytes and no other ones.
func TestReadAny(t *testing.T) {
	count := map[api.Errno]int{}
	for seed := range 40000 {
		r := dice(seed)
		s := r.state(3)
		f, e := level.Bytes(s)
		is(t, "Bytes", e, api.OK)
		if u, e := level.Read(f); !same(s, u) || e != api.OK || f != framed(t, plain(s)) {
			t.Fatalf("%v: %v, %d", s, u, e)
		}
		b := []byte(plain(s))
		for range 1 + r.roll(2) {
			at := r.roll(len(b))
			switch r.roll(4) {
			case 0:
				b[at] = byte(r.roll(4))
			case 1:
				b[at] = byte(r.roll(256))
			case 2:
				b = slices.Insert(b, at, byte(r.roll(3)))
			default:
				b = b[:max(1, at)]
			}
		}
		f = framed(t, string(b))
		u, e := level.Read(f)
		count[e]++
		if e != api.OK {
			refused(t, f, e)
		} else if again, e := level.Bytes(u); again != f || e != api.OK {
			t.Fatalf("%q: %v, %d", b, u, e)
		}
	}
	for _, e := range []api.Errno{api.OK, api.ErrArg, api.ErrEnd, api.ErrText, api.ErrForm, api.ErrBig} {
		if count[e] < 100 {
			t.Errorf("%d but %d times", e, count[e])
		}
	}
}

// inOrder puts files in order by the chapter's words: one by one, behind all that don't stand behind it.
func inOrder(files []level.File) []level.File {
	var l []level.File
	for _, f := range files {
		at := len(l)
		for at > 0 {
			g := l[at-1]
			if g.Level < f.Level || g.Level == f.Level && (f.Level == 0 && g.Num >= f.Num || f.Level != 0 && g.First <= f.First) {
				break
			}
			at--
		}
		l = slices.Insert(l, at, f)
	}
	return l
}

// applied is what Apply answers, by the chapter's words.
func applied(s level.State, gone []int, fresh []level.File, log int) (level.State, api.Errno) {
	if e := wanted(s); e != api.OK {
		return level.State{}, e
	}
	for _, n := range gone {
		if !slices.ContainsFunc(s.Files, func(f level.File) bool { return f.Num == n }) {
			return level.State{}, api.ErrNone
		}
	}
	u := level.State{Next: s.Next, Log: log}
	for _, f := range s.Files {
		if !slices.Contains(gone, f.Num) {
			u.Files = append(u.Files, f)
		}
	}
	for _, f := range fresh {
		if f.Num < 0 || f.Num >= most {
			return level.State{}, api.ErrArg
		}
		u.Next = max(u.Next, f.Num+1)
		u.Files = append(u.Files, f)
	}
	u.Files = inOrder(u.Files)
	if e := wanted(u); e != api.OK {
		return level.State{}, e
	}
	return u, api.OK
}

// applies asks what Apply answers.
func applies(t *testing.T, s level.State, gone []int, fresh []level.File, log int, want level.State, wantE api.Errno) {
	t.Helper()
	if u, e := level.Apply(s, gone, fresh, log); !same(u, want) || e != wantE {
		t.Errorf("%v, %v, %v, %d: %v, %d instead of %v, %d", s, gone, fresh, log, u, e, want, wantE)
	}
}

// P11.2: what is put in, and where.
func TestApply(t *testing.T) {
	a, b, c, d := file(4, 0, "a", "z"), file(2, 0, "b", "c"), file(3, 1, "c", "d"), file(0, 2, "a", "m")
	s := level.State{Next: 5, Log: 2, Files: []level.File{a, b, c, d}}
	of := func(next, log int, files ...level.File) level.State {
		return level.State{Next: next, Log: log, Files: files}
	}
	applies(t, s, nil, nil, 2, s, api.OK)
	applies(t, s, nil, nil, 0, of(5, 0, a, b, c, d), api.OK)
	applies(t, s, []int{}, []level.File{}, most, of(5, most, a, b, c, d), api.OK)
	applies(t, s, []int{0, 4, 2, 3}, nil, 7, of(5, 7), api.OK)
	applies(t, s, []int{2, 2, 0, 2}, nil, 7, of(5, 7, a, c), api.OK)
	applies(t, level.State{}, nil, nil, 0, level.State{}, api.OK)
	// New ones, in any order; the next number is above them, and never less than it was.
	x, y, z, w := file(9, 0, "k", "k"), file(5, 0, "k", "l"), file(1, 1, "e", "f"), file(7, 1, "a", "b")
	applies(t, s, nil, []level.File{z, y, w, x}, 2, of(10, 2, x, y, a, b, w, c, z, d), api.OK)
	applies(t, s, nil, []level.File{z}, 2, of(5, 2, a, b, c, z, d), api.OK)
	applies(t, s, nil, []level.File{y}, 2, of(6, 2, y, a, b, c, d), api.OK)
	applies(t, s, []int{3, 0}, []level.File{file(most-1, 3, "a", "m"), file(1, 2, "n", "z")}, 2, of(most, 2, a, b, file(1, 2, "n", "z"), file(most-1, 3, "a", "m")), api.OK)
	// In the place, and with the number, of one that goes.
	applies(t, s, []int{3}, []level.File{file(3, 1, "c", "e")}, 2, of(5, 2, a, b, file(3, 1, "c", "e"), d), api.OK)
	applies(t, s, []int{3, 4}, []level.File{file(4, 1, "c", "d"), file(3, 0, "c", "d")}, 2, of(5, 2, file(3, 0, "c", "d"), b, file(4, 1, "c", "d"), d), api.OK)
	applies(t, level.State{}, nil, []level.File{file(0, 0, "a", "a")}, 0, of(1, 0, file(0, 0, "a", "a")), api.OK)
}

// P11.2: each error, and which goes ahead of which.
func TestApplyErrors(t *testing.T) {
	a, b := file(4, 0, "a", "z"), file(3, 1, "c", "d")
	s := level.State{Next: 5, Log: 2, Files: []level.File{a, b}}
	none := level.State{}
	for _, x := range wrongs() {
		applies(t, x.s, nil, nil, 0, none, x.want)
		applies(t, x.s, []int{77}, []level.File{{Num: -1}}, -1, none, x.want)
		// That it would be right behind it doesn't help.
		applies(t, x.s, []int{5, 1, 2, 3}, nil, 0, none, x.want)
	}
	for _, n := range []int{-1, 0, 2, 5, most, math.MaxInt, math.MinInt} {
		applies(t, s, []int{n}, nil, 0, none, api.ErrNone)
		applies(t, s, []int{3, n, 4}, []level.File{{Num: -1}}, -1, none, api.ErrNone)
		applies(t, s, []int{n}, []level.File{file(n, 0, "a", "a")}, 0, none, api.ErrNone)
	}
	for _, n := range []int{-1, most, math.MaxInt, math.MinInt} {
		applies(t, s, nil, []level.File{file(n, 0, "a", "a")}, 0, none, api.ErrArg)
		applies(t, s, []int{3}, []level.File{file(9, 0, "", "a"), file(n, 0, "a", "a")}, 0, none, api.ErrArg)
		applies(t, s, nil, append(many(1001, 1), file(n, 0, "a", "a")), 0, none, api.ErrArg)
	}
	applies(t, s, nil, nil, -1, none, api.ErrArg)
	applies(t, s, nil, nil, most+1, none, api.ErrArg)
	applies(t, s, nil, many(1001, 1), -1, none, api.ErrArg)
	applies(t, level.State{}, nil, many(1001, 1), 0, none, api.ErrBig)
	applies(t, s, nil, []level.File{file(9, 4, "a", "a")}, 0, none, api.ErrArg)
	applies(t, s, nil, []level.File{file(9, -1, "a", "a")}, 0, none, api.ErrArg)
	applies(t, s, nil, []level.File{{Num: 9, Size: -1, First: "a", Last: "a"}}, 0, none, api.ErrArg)
	applies(t, s, nil, []level.File{file(9, 0, "", "a")}, 0, none, api.ErrForm)
	applies(t, s, nil, []level.File{file(9, 1, "d", "e")}, 0, none, api.ErrForm)
	applies(t, s, nil, []level.File{file(9, 1, "a", "c")}, 0, none, api.ErrForm)
	applies(t, s, nil, []level.File{file(4, 2, "a", "c")}, 0, none, api.ErrForm)
	applies(t, s, nil, []level.File{b}, 0, none, api.ErrForm)
}

// P11.2: the first error of the files in order; at one place they count as they were handed in, those that were there first.
func TestApplyOrder(t *testing.T) {
	s := level.State{Next: 9, Files: []level.File{file(8, 0, "a", "a"), file(3, 1, "c", "d")}}
	none := level.State{}
	bad := func(num, at int, first string) level.File { // ErrArg of it alone
		return level.File{Num: num, Level: at, Size: -1, First: first, Last: first}
	}
	// One of ErrArg, and one of ErrForm, at unlike places.
	applies(t, s, nil, []level.File{bad(5, 1, "x"), file(6, 1, "e", "")}, 0, none, api.ErrForm)
	applies(t, s, nil, []level.File{bad(5, 1, "b"), file(6, 1, "e", "")}, 0, none, api.ErrArg)
	applies(t, s, nil, []level.File{file(6, 1, "e", ""), bad(5, 1, "b")}, 0, none, api.ErrArg)
	applies(t, s, nil, []level.File{file(6, 0, "e", ""), bad(7, 0, "b")}, 0, none, api.ErrArg)
	applies(t, s, nil, []level.File{file(7, 0, "e", ""), bad(6, 0, "b")}, 0, none, api.ErrForm)
	applies(t, s, nil, []level.File{bad(6, 3, "a"), file(7, 2, "e", "")}, 0, none, api.ErrForm)
	applies(t, s, nil, []level.File{file(7, 3, "e", ""), file(6, 4, "a", "a"), file(5, -1, "", "")}, 0, none, api.ErrArg)
	// At one place.
	applies(t, s, nil, []level.File{bad(5, 2, "b"), file(6, 2, "b", "")}, 0, none, api.ErrArg)
	applies(t, s, nil, []level.File{file(6, 2, "b", ""), bad(5, 2, "b")}, 0, none, api.ErrForm)
	applies(t, s, nil, []level.File{bad(7, 0, "b"), file(7, 0, "b", "")}, 0, none, api.ErrArg)
	applies(t, s, nil, []level.File{file(7, 0, "b", ""), bad(7, 0, "b")}, 0, none, api.ErrForm)
	applies(t, s, nil, []level.File{bad(5, 1, "c"), file(6, 1, "c", "")}, 0, none, api.ErrArg)
	applies(t, s, nil, []level.File{file(6, 1, "c", ""), bad(5, 1, "c")}, 0, none, api.ErrForm)
	// One that was there counts ahead of new ones.
	applies(t, s, nil, []level.File{file(6, 1, "c", "c"), bad(5, 1, "c")}, 0, none, api.ErrForm)
	applies(t, s, []int{3}, []level.File{file(6, 1, "c", "c"), bad(5, 1, "c")}, 0, none, api.ErrArg)
	// So many that no sort keeps them as they were by chance.
	count := map[api.Errno]int{}
	for seed := range 100 {
		r := dice(seed)
		var l []level.File
		for n := range 100 {
			first := string([]byte{byte('b' + r.roll(5))})
			if r.roll(2) == 0 {
				l = append(l, bad(100+n, 2, first))
			} else {
				l = append(l, file(100+n, 2, first, ""))
			}
		}
		_, want := applied(s, nil, l, 0)
		applies(t, s, nil, l, 0, none, want)
		count[want]++
	}
	if count[api.ErrArg] < 20 || count[api.ErrForm] < 20 {
		t.Errorf("%v", count)
	}
}

// P11.2: of any arguments.
func TestApplyAny(t *testing.T) {
	count := map[api.Errno]int{}
	for seed := range 30000 {
		r := dice(seed)
		s := r.state(3)
		if r.roll(20) == 0 {
			r.spoil(&s)
		}
		var gone []int
		for range r.roll(4) {
			if n := len(s.Files); n > 0 && r.roll(12) > 0 {
				gone = append(gone, s.Files[r.roll(n)].Num)
			} else if r.roll(4) == 0 {
				gone = append(gone, r.roll(30))
			}
		}
		other := r.state(r.roll(3))
		for i := range other.Files {
			other.Files[i].Num += s.Next - r.roll(2)*r.roll(2)
		}
		if r.roll(6) == 0 {
			r.spoil(&other)
		}
		var fresh []level.File
		for _, i := range r.shuffled(len(other.Files)) {
			fresh = append(fresh, other.Files[i])
		}
		want, e := applied(s, gone, fresh, other.Log)
		applies(t, s, gone, fresh, other.Log, want, e)
		count[e]++
		if t.Failed() {
			return
		}
	}
	for _, e := range []api.Errno{api.OK, api.ErrArg, api.ErrForm, api.ErrNone} {
		if count[e] < 500 {
			t.Errorf("%d but %d times", e, count[e])
		}
	}
}

// meet: by the chapter's words.
func meet(a, b level.File) bool { return !(a.Last < b.First) && !(b.Last < a.First) }

// spread is a file from the least first key to the greatest last one.
func spread(files []level.File) level.File {
	f := files[0]
	for _, g := range files {
		if g.First < f.First {
			f.First = g.First
		}
		if g.Last > f.Last {
			f.Last = g.Last
		}
	}
	return f
}

// onLevel are a state's files of a level.
func onLevel(s level.State, n int) []level.File {
	var l []level.File
	for _, f := range s.Files {
		if f.Level == n {
			l = append(l, f)
		}
	}
	return l
}

// jobOf is files of a level, and those of the next one that meet their span.
func jobOf(s level.State, n int, from ...level.File) level.Job {
	j := level.Job{Level: n}
	for _, f := range from {
		j.From = append(j.From, f.Num)
	}
	for _, f := range onLevel(s, n+1) {
		if meet(f, spread(from)) {
			j.To = append(j.To, f.Num)
		}
	}
	return j
}

// picked is what Pick answers, by the chapter's words.
func picked(s level.State, l level.Limits) (level.Job, bool) {
	if wanted(s) != api.OK || l.Count < 1 || l.Size < 1 || l.Size > most {
		return level.Job{}, false
	}
	if files := onLevel(s, 0); len(files) >= l.Count {
		return jobOf(s, 0, files...), true
	}
	for n, limit := range []int{1: l.Size, 2: 8 * l.Size} {
		files := onLevel(s, n)
		sum := 0
		for _, f := range files {
			sum += f.Size
		}
		if n == 0 || sum <= limit {
			continue
		}
		oldest := files[0]
		for _, f := range files {
			if f.Num < oldest.Num {
				oldest = f
			}
		}
		return jobOf(s, n, oldest), true
	}
	return level.Job{}, false
}

// wholly is what Whole answers, by the chapter's words.
func wholly(s level.State) (level.Job, bool) {
	for n := 0; n <= 2 && wanted(s) == api.OK; n++ {
		deeper := slices.ContainsFunc(s.Files, func(f level.File) bool { return f.Level > n })
		if files := onLevel(s, n); len(files) > 0 && (n == 0 || deeper) {
			return jobOf(s, n, files...), true
		}
	}
	return level.Job{}, false
}

// lastly is what Last answers, by the chapter's words.
func lastly(s level.State, j level.Job) bool {
	var files []level.File
	for _, f := range s.Files {
		if slices.Contains(j.From, f.Num) || slices.Contains(j.To, f.Num) {
			files = append(files, f)
		}
	}
	for _, f := range s.Files {
		if len(files) > 0 && f.Level > j.Level+1 && meet(f, spread(files)) {
			return false
		}
	}
	return len(files) > 0
}

// picks asks what Pick answers: a job of these files, if any.
func picks(t *testing.T, s level.State, l level.Limits, n int, from, to []int) {
	t.Helper()
	want := level.Job{Level: n, From: from, To: to}
	if j, ok := level.Pick(s, l); !alike(j, want) || ok != (len(from) > 0) {
		t.Errorf("%v, %v: %v, %v instead of %v", s, l, j, ok, want)
	}
}

// sized is a file with so many bytes.
func sized(f level.File, n int) level.File {
	f.Size = n
	return f
}

// P11.3: the chapter's example.
func TestExample(t *testing.T) {
	s := of(file(3, 0, "a", "c"), file(2, 0, "b", "f"), file(1, 1, "e", "k"))
	picks(t, s, level.Limits{Count: 2, Size: 1}, 0, []int{3, 2}, []int{1})
	if !level.Last(s, level.Job{From: []int{3, 2}, To: []int{1}}) {
		t.Error("Last")
	}
}

// P11.3: level 0, as soon as it has so many files: all of them, and what their span meets.
func TestPickNewest(t *testing.T) {
	s := of(file(9, 0, "h", "k"), file(7, 0, "e", "f"), file(6, 0, "i", "j"),
		file(5, 1, "a", "dz"), file(4, 1, "e", "e"), file(3, 1, "fa", "g"), file(8, 1, "k", "l"), file(2, 1, "la", "lb"), file(1, 2, "a", "z"))
	for count := 1; count <= 3; count++ {
		picks(t, s, level.Limits{Count: count, Size: 1}, 0, []int{9, 7, 6}, []int{4, 3, 8})
		picks(t, s, level.Limits{Count: count, Size: most}, 0, []int{9, 7, 6}, []int{4, 3, 8})
	}
	picks(t, s, level.Limits{Count: 4, Size: most}, 0, nil, nil)
	picks(t, s, level.Limits{Count: math.MaxInt, Size: most}, 0, nil, nil)
	picks(t, of(file(2, 0, "b", "c"), file(3, 1, "a", "az"), file(4, 1, "ca", "d")), level.Limits{Count: 1, Size: 1}, 0, []int{2}, nil)
	picks(t, of(file(2, 0, "b", "c"), file(3, 2, "a", "z")), level.Limits{Count: 1, Size: 1}, 0, []int{2}, nil)
	// The limit of level 1 is above, but level 0 goes first.
	picks(t, of(file(2, 0, "b", "c"), sized(file(1, 1, "x", "z"), 99)), level.Limits{Count: 1, Size: 1}, 0, []int{2}, nil)
	picks(t, of(file(2, 0, "b", "c"), sized(file(1, 1, "x", "z"), 99)), level.Limits{Count: 2, Size: 1}, 1, []int{1}, nil)
}

// P11.3: a deeper level, as soon as its files have more bytes: the one of the least number, and what it meets.
func TestPickDeeper(t *testing.T) {
	s := of(sized(file(9, 0, "a", "z"), 1000), sized(file(7, 1, "a", "c"), 30), sized(file(3, 1, "f", "h"), 0), sized(file(8, 1, "k", "l"), 20),
		file(6, 2, "a", "e"), file(2, 2, "ea", "f"), file(5, 2, "g", "g"), file(4, 2, "h", "i"), sized(file(1, 2, "ia", "z"), 401), file(0, 3, "i", "zz"))
	for size := 1; size < 50; size++ {
		picks(t, s, level.Limits{Count: 2, Size: size}, 1, []int{3}, []int{2, 5, 4})
	}
	picks(t, s, level.Limits{Count: 2, Size: 50}, 2, []int{1}, []int{0})
	picks(t, s, level.Limits{Count: 2, Size: 51}, 0, nil, nil)
	picks(t, s, level.Limits{Count: 2, Size: most}, 0, nil, nil)
	// The deepest level has no limit; nor has a level without bytes any.
	picks(t, of(sized(file(1, 3, "a", "b"), most), sized(file(2, 3, "c", "d"), most)), level.Limits{Count: 1, Size: 1}, 0, nil, nil)
	picks(t, of(file(1, 1, "a", "b"), file(2, 2, "a", "b")), level.Limits{Count: 1, Size: 1}, 0, nil, nil)
	// Great sizes.
	var l []level.File
	for i := range 9 {
		l = append(l, sized(file(20-i, 2, string(rune('a'+i)), string(rune('a'+i))), most))
	}
	picks(t, of(l[:8]...), level.Limits{Count: 1, Size: most}, 0, nil, nil)
	picks(t, of(l...), level.Limits{Count: 1, Size: most}, 2, []int{12}, nil)
	picks(t, of(sized(file(1, 1, "a", "b"), most)), level.Limits{Count: 1, Size: most}, 0, nil, nil)
	picks(t, of(sized(file(1, 1, "a", "b"), most)), level.Limits{Count: 1, Size: most - 1}, 1, []int{1}, nil)
}

// P11.3: no job of what isn't right.
func TestPickWrong(t *testing.T) {
	s := of(file(3, 0, "a", "c"), sized(file(1, 1, "e", "k"), 9))
	for _, l := range []level.Limits{{}, {Count: 1}, {Size: 1}, {Count: -1, Size: 1}, {Count: 1, Size: -1}, {Count: 1, Size: most + 1}, {Count: 1, Size: math.MaxInt}, {Count: math.MinInt, Size: math.MinInt}} {
		picks(t, s, l, 0, nil, nil)
	}
	for _, x := range wrongs() {
		picks(t, x.s, level.Limits{Count: 1, Size: 1}, 0, nil, nil)
		if j, ok := level.Whole(x.s); ok || !alike(j, level.Job{}) {
			t.Errorf("%v: %v", x.s, j)
		}
	}
	picks(t, level.State{}, level.Limits{Count: 1, Size: 1}, 0, nil, nil)
}

// P11.3: the first level that has files, with the next one; but none, if all are on one level, 1 or deeper.
func TestWhole(t *testing.T) {
	a, b, c, d := file(4, 0, "e", "f"), file(2, 0, "h", "k"), file(3, 1, "c", "d"), file(6, 1, "g", "h")
	e, f, g := file(0, 2, "a", "c"), file(5, 2, "d", "g"), file(1, 3, "b", "x")
	far := file(7, 2, "y", "z")
	for i, x := range []struct {
		files    []level.File
		at       int
		from, to []int
	}{
		{nil, 0, nil, nil}, {[]level.File{c, d}, 0, nil, nil}, {[]level.File{e, f}, 0, nil, nil}, {[]level.File{g}, 0, nil, nil},
		{[]level.File{a}, 0, []int{4}, nil}, {[]level.File{a, b}, 0, []int{4, 2}, nil}, {[]level.File{b, c, d, g}, 0, []int{2}, []int{6}},
		{[]level.File{a, b, c, d, e, f, g}, 0, []int{4, 2}, []int{6}}, {[]level.File{a, g}, 0, []int{4}, nil},
		{[]level.File{c, d, e, f, far, g}, 1, []int{3, 6}, []int{0, 5}}, {[]level.File{c, d, g}, 1, []int{3, 6}, nil}, {[]level.File{c, far}, 1, []int{3}, nil},
		{[]level.File{e, f, far, g}, 2, []int{0, 5, 7}, []int{1}}, {[]level.File{far, g}, 2, []int{7}, nil},
	} {
		want := level.Job{Level: x.at, From: x.from, To: x.to}
		if j, ok := level.Whole(of(x.files...)); !alike(j, want) || ok != (len(x.from) > 0) {
			t.Errorf("%d: %v, %v instead of %v", i, j, ok, want)
		}
	}
}

// P11.3: no file of a level that is deeper than the next one meets the span of the job's files.
func TestLast(t *testing.T) {
	s := of(file(9, 0, "h", "k"), file(8, 0, "e", "f"), file(5, 1, "d", "e"), file(4, 1, "k", "l"), file(2, 2, "a", "c"), file(3, 2, "g", "g"), file(7, 2, "x", "z"), file(1, 3, "c", "cz"))
	for i, x := range []struct {
		j    level.Job
		want bool
	}{
		{level.Job{}, false}, {level.Job{From: []int{}, To: []int{}}, false}, {level.Job{From: []int{0, 6, -1}, To: []int{77}}, false},
		{level.Job{From: []int{9}}, true}, {level.Job{From: []int{8}, To: []int{5}}, true}, {level.Job{To: []int{5}}, true},
		{level.Job{From: []int{9, 8}}, false},                               // none of them meets 3, but their span does
		{level.Job{From: []int{9}, To: []int{5}}, false},                    // those of To count
		{level.Job{From: []int{9, 0, 9}, To: []int{-1, math.MaxInt}}, true}, // those that there aren't don't
		{level.Job{Level: 1, From: []int{5, 4}, To: []int{3}}, true}, {level.Job{Level: 1, From: []int{5}, To: []int{2}}, false},
		{level.Job{Level: 2, From: []int{2}, To: []int{1}}, true}, {level.Job{Level: 3, From: []int{1}}, true},
		{level.Job{Level: 0, From: []int{1}}, false}, // it meets itself
		{level.Job{Level: -1, From: []int{9}}, false}, {level.Job{Level: -1, From: []int{8}}, false}, {level.Job{Level: -3, From: []int{7}}, false},
		{level.Job{Level: math.MaxInt, From: []int{9, 8}}, true}, {level.Job{Level: math.MaxInt - 1, From: []int{9, 8}}, true}, {level.Job{Level: math.MinInt, From: []int{9}}, false},
	} {
		if is := level.Last(s, x.j); is != x.want {
			t.Errorf("%d: %v: %v", i, x.j, is)
		}
	}
	// Keys that are the same meet; states that aren't right are asked as well.
	edge := func(at int, first, last string) level.State {
		return of(file(9, 0, "d", "e"), file(1, at, first, last))
	}
	for i, x := range []struct {
		s    level.State
		want bool
	}{
		{edge(2, "e", "f"), false}, {edge(2, "e\x00", "f"), true}, {edge(2, "a", "d"), false}, {edge(2, "a", "cz"), true}, {edge(3, "da", "db"), false},
		{edge(3, "a", "z"), false}, {edge(1, "a", "z"), true}, {edge(0, "a", "z"), true}, {edge(77, "a", "z"), false}, {edge(math.MaxInt, "a", "z"), false},
		{edge(math.MinInt, "a", "z"), true}, {level.State{}, false}, {of(file(9, 0, "d", "d"), file(9, 1, "f", "f"), file(2, 2, "e", "e")), false},
	} {
		if is := level.Last(x.s, level.Job{From: []int{9}}); is != x.want {
			t.Errorf("edge %d: %v", i, is)
		}
	}
	if !level.Last(edge(math.MinInt, "a", "z"), level.Job{Level: math.MaxInt, From: []int{9}}) {
		t.Error("levels out of all bounds")
	}
}

// P11.3: of any states.
func TestJobsAny(t *testing.T) {
	jobs, lasts := map[int]int{}, map[bool]int{}
	for seed := range 30000 {
		r := dice(seed)
		s := r.state(4)
		if r.roll(10) == 0 {
			r.spoil(&s)
		}
		l := level.Limits{Count: 1 + r.roll(6), Size: 1 + r.roll(40)}
		want, there := picked(s, l)
		j, ok := level.Pick(s, l)
		if !alike(j, want) || ok != there {
			t.Fatalf("Pick: %v, %v: %v, %v instead of %v", s, l, j, ok, want)
		}
		if ok {
			jobs[j.Level]++
		}
		whole, there := wholly(s)
		w, ok := level.Whole(s)
		if !alike(w, whole) || ok != there {
			t.Fatalf("Whole: %v: %v, %v instead of %v", s, w, ok, whole)
		}
		if ok {
			jobs[10+w.Level]++
		}
		for _, j := range []level.Job{j, w, {Level: r.roll(5) - 1, From: r.shuffled(r.roll(4)), To: r.shuffled(r.roll(9))}} {
			is := level.Last(s, j)
			if is != lastly(s, j) {
				t.Fatalf("Last: %v, %v: %v", s, j, is)
			}
			lasts[is]++
		}
	}
	for _, n := range []int{0, 1, 2, 10, 11, 12} {
		if jobs[n] < 500 {
			t.Errorf("job %d but %d times", n, jobs[n])
		}
	}
	if lasts[true] < 1000 || lasts[false] < 1000 {
		t.Errorf("%v", lasts)
	}
}

// together is files put together on a level: none, one, or two of them, of new numbers.
func (d *dice) together(files []level.File, next, at int) []level.File {
	f := spread(files)
	f.Num, f.Level = next, at
	g := f
	g.Num, g.First = next+1, f.First+"\x00"
	switch {
	case d.roll(8) == 0:
		return nil
	case d.roll(2) == 0 && g.First <= g.Last:
		f.Last = f.First
		return []level.File{g, f}
	}
	return []level.File{f}
}

// P11.4: Whole, again and again, puts all files on one level below the newest.
func TestWholeEnds(t *testing.T) {
	steps := map[int]int{}
	for seed := range 5000 {
		r := dice(seed)
		s := r.state(5)
		n := 0
		for {
			j, ok := level.Whole(s)
			if !ok {
				break
			}
			var files []level.File
			gone := slices.Concat(j.From, j.To)
			for _, f := range s.Files {
				if slices.Contains(gone, f.Num) {
					files = append(files, f)
				}
			}
			u, e := level.Apply(s, gone, r.together(files, s.Next, j.Level+1), s.Log)
			is(t, "Apply", e, api.OK)
			s = u
			if n++; n > 3 {
				t.Fatalf("%d: it doesn't end: %v", seed, s)
			}
		}
		steps[n]++
		for _, f := range s.Files {
			if f.Level == 0 || f.Level != s.Files[0].Level {
				t.Fatalf("%d: %v", seed, s)
			}
		}
	}
	for n := range 4 {
		if steps[n] < 30 {
			t.Errorf("%d steps but %d times", n, steps[n])
		}
	}
}

// lent is a text whose bytes can be made others, as those of nobody's memory can't.
func lent(s string) (string, []byte) {
	b := []byte(s)
	return unsafe.String(unsafe.SliceData(b), len(b)), b
}

// P11.1 to P11.3: what is handed in isn't changed or kept, and answers are nobody's but the caller's (K3).
func TestMemory(t *testing.T) {
	spare := file(77, 3, "spare", "spare")
	all := []level.File{file(4, 0, "a", "c"), file(2, 0, "b", "d"), file(3, 1, "c", "d"), spare}
	files := all[:3]
	s := level.State{Next: 5, Log: 1, Files: files}
	gone, fresh := []int{4, 2, 77}, []level.File{file(6, 1, "e", "f"), file(5, 0, "a", "b"), spare}
	u, _ := level.Apply(s, gone[:2], fresh[:2], 3)
	v, _ := level.Apply(s, nil, nil, 1)
	level.Check(s)
	level.Bytes(s)
	j, _ := level.Pick(s, level.Limits{Count: 1, Size: 1})
	w, _ := level.Whole(s)
	level.Last(s, j)
	if !slices.Equal(all, []level.File{file(4, 0, "a", "c"), file(2, 0, "b", "d"), file(3, 1, "c", "d"), spare}) {
		t.Errorf("%v", all)
	}
	if !slices.Equal(gone, []int{4, 2, 77}) || !slices.Equal(fresh, []level.File{file(6, 1, "e", "f"), file(5, 0, "a", "b"), spare}) {
		t.Errorf("%v, %v", gone, fresh)
	}
	clear(all)
	clear(fresh)
	u.Files[2].Num = 100
	j.From[0] = 100
	if !slices.Equal(v.Files, []level.File{file(4, 0, "a", "c"), file(2, 0, "b", "d"), file(3, 1, "c", "d")}) {
		t.Errorf("Apply keeps what was handed in: %v", v)
	}
	if !slices.Equal(u.Files[:2], []level.File{file(5, 0, "a", "b"), file(3, 1, "c", "d")}) || !slices.Equal(w.From, []int{4, 2}) {
		t.Errorf("%v, %v", u, w)
	}
}

// P11.1, P11.2: no bytes of a text that was handed in are kept (K3).
func TestLentTexts(t *testing.T) {
	first, fb := lent("a")
	last, lb := lent("b")
	more, mb := lent("cc")
	u, _ := level.Apply(level.State{Next: 1, Files: []level.File{file(0, 0, first, last)}}, nil, []level.File{file(1, 1, more, more)}, 0)
	clear(fb)
	clear(lb)
	clear(mb)
	if want := []level.File{file(0, 0, "a", "b"), file(1, 1, "cc", "cc")}; !slices.Equal(u.Files, want) {
		t.Errorf("Apply: %v", u.Files)
	}
	s, _ := level.Bytes(u)
	b, bytes := lent(s)
	v, _ := level.Read(b)
	clear(bytes)
	if !same(u, v) {
		t.Errorf("Read: %v", v)
	}
}
