package journal_test

import (
	"fmt"
	"maps"
	"math"
	"slices"
	"strings"
	"testing"
	"unsafe"

	"chirograph/api"
	"chirograph/disk"
	"chirograph/journal"
	"chirograph/seal"
)

// dice are numbers of all kinds, other ones for each seed.
type dice uint32

func (d *dice) roll(n int) int {
	*d = *d*1664525 + 1013904223
	return int(*d>>8) % n
}

// mixed is a text of n bytes of all kinds.
func (d *dice) mixed(n int) string {
	b := make([]byte, n)
	for i := range b {
		b[i] = byte(d.roll(256))
	}
	return string(b)
}

func is(t *testing.T, what string, got, want api.Errno) {
	t.Helper()
	if got != want {
		t.Fatalf("%s: %d instead of %d", what, got, want)
	}
}

// opened is the journal of a disk, of which the texts and the segment in which texts go are wanted so.
func opened(t *testing.T, d *disk.Disk, from, now int, want ...string) *journal.Journal {
	t.Helper()
	j, l, e := journal.Open(d, from)
	if e != api.OK || !slices.Equal(l, want) || j.Now() != now {
		t.Fatalf("Open(%d): %.60q, %d instead of %.60q, %d", from, l, e, want, now)
	}
	return j
}

func segments(t *testing.T, d *disk.Disk, want ...int) {
	t.Helper()
	if l := journal.Segments(d); !slices.Equal(l, want) {
		t.Fatalf("%d instead of %d", l, want)
	}
}

func added(t *testing.T, j *journal.Journal, texts ...string) {
	t.Helper()
	for _, s := range texts {
		is(t, "Add", j.Add(s), api.OK)
	}
}

func turned(t *testing.T, j *journal.Journal, want int) {
	t.Helper()
	if n := j.Turn(); n != want || j.Now() != want {
		t.Fatalf("Turn: %d, %d instead of %d", n, j.Now(), want)
	}
}

// framed is the frames of texts, one behind the other.
func framed(texts ...string) string {
	all := ""
	for _, s := range texts {
		frame, _ := seal.Wrap(s)
		all += frame
	}
	return all
}

// laid puts bytes into a file, and makes them sure.
func laid(t *testing.T, d *disk.Disk, name, b string) {
	t.Helper()
	is(t, "Append", d.Append(name, b), api.OK)
	is(t, "Sync", d.Sync(name), api.OK)
}

// files are the names and bytes of all that lies on a disk that lives.
func files(t *testing.T, d *disk.Disk) map[string]string {
	t.Helper()
	all := map[string]string{}
	for _, name := range d.List() {
		s, e := d.Read(name)
		is(t, "Read", e, api.OK)
		all[name] = s
	}
	return all
}

// P7.1: the chapter's example.
func TestExample(t *testing.T) {
	d := disk.New(1000)
	j := opened(t, d, 0, 0)
	added(t, j, "a", "b")
	turned(t, j, 1)
	added(t, j, "c")
	is(t, "Drop", j.Drop(1), api.OK)
	segments(t, d, 1)
	opened(t, d, 1, 2, "c")
}

// P7.1: a segment's name: ten digits.
func TestName(t *testing.T) {
	for n, want := range map[int]string{
		0: "log-0000000000", 1: "log-0000000001", 9: "log-0000000009", 10: "log-0000000010",
		1234567890: "log-1234567890", 1 << 30: "log-1073741824", 1<<31 - 1: "log-2147483647",
		999999999: "log-0999999999", 9999999999: "log-9999999999",
	} {
		if got := journal.Name(n); got != want {
			t.Errorf("Name(%d): %q", n, got)
		}
	}
	for _, n := range []int{-1, -1000000000, 10000000000, math.MinInt, math.MaxInt} { // not asked: but it ends
		journal.Name(n)
	}
}

// odd are names that no segment has.
func odd() []string {
	return []string{
		"log-", "log-000000000", "log-00000000000", "log-00000000010", "log-+000000001", "log--000000001",
		"log-00000000_1", "log-000000000x", "log-x000000000", "log-0x00000001", "log- 000000001", "log-000000001 ",
		"log-0000000.01", "log-00000001e1", "Log-0000000001", "LOG-0000000001", "log_0000000001", "log0000000001",
		"0000000001", "log-٠٠٠٠٠", "log-00000000٣", "log-000000000\x00", " log-0000000001", "log-0000000001.old",
		"xlog-0000000001", "log-log-0000000001", "log-\xff000000000", "log-000000000:", "log-/000000000", "logs", "l", "0",
	}
}

// P7.1: which files are segments, and that others are nobody's.
func TestSegments(t *testing.T) {
	d := disk.New(10000)
	segments(t, d)
	for _, name := range odd() {
		laid(t, d, name, framed("not a text of the journal"))
		segments(t, d)
	}
	before := files(t, d)
	opened(t, d, 0, 0)
	numbers := []int{0, 9, 10, 11, 99, 100, 1 << 30, 1<<30 + 1, 1<<31 - 1, 1 << 31, 9999999999}
	for _, i := range []int{5, 3, 9, 1, 0, 10, 7, 2, 4, 8, 6} {
		laid(t, d, journal.Name(numbers[i]), "")
	}
	segments(t, d, numbers...)
	j := opened(t, d, 0, 10000000000)
	is(t, "Drop", j.Drop(math.MaxInt), api.OK)
	segments(t, d)
	if !maps.Equal(files(t, d), before) {
		t.Error("other files aren't as they were")
	}
}

// P7.1: of a dead disk there are no segments, and no journal.
func TestDeadDisk(t *testing.T) {
	d := disk.New(100)
	j := opened(t, d, 0, 0)
	added(t, j, "a")
	turned(t, j, 1)
	d.Arm(0)
	is(t, "Add", j.Add("b"), api.ErrDead)
	segments(t, d)
	for _, from := range []int{-1, 0, 1 << 30, 1<<30 + 1} {
		want := api.ErrDead
		if from != 0 && from != 1<<30 { // ErrArg is named first
			want = api.ErrArg
		}
		none, l, e := journal.Open(d, from)
		if none != nil || len(l) != 0 || e != want {
			t.Errorf("Open(%d): %v, %q, %d", from, none, l, e)
		}
	}
	is(t, "Add", j.Add("c"), api.ErrDead)
	is(t, "Add of a text for which there is no room", j.Add(strings.Repeat("c", 100)), api.ErrDead)
	is(t, "Add of a text that is too big", j.Add(strings.Repeat("c", api.MaxText+1)), api.ErrBig)
	for _, below := range []int{math.MinInt, -1, 0, 1, 2, math.MaxInt} {
		is(t, "Drop", j.Drop(below), api.ErrDead)
	}
	turned(t, j, 2) // no deed
	d.Crash(nil)
	opened(t, d, 0, 2, "a")
}

// P7.1: Open's number is 0 to MaxEpoch.
func TestOpenArgument(t *testing.T) {
	d := disk.New(100)
	laid(t, d, journal.Name(5), framed("a"))
	for _, from := range []int{math.MinInt, -2, -1, 1<<30 + 1, 1 << 31, math.MaxInt} {
		none, l, e := journal.Open(d, from)
		if none != nil || len(l) != 0 || e != api.ErrArg {
			t.Errorf("Open(%d): %v, %q, %d", from, none, l, e)
		}
	}
	opened(t, d, 0, 6, "a")
	opened(t, d, api.MaxEpoch, 1<<30)
}

// P7.1: from which segment on there are texts, and where they go.
func TestOpenFrom(t *testing.T) {
	d := disk.New(1000)
	for _, n := range []int{7, 0, 3, 4} {
		laid(t, d, journal.Name(n), framed(fmt.Sprint(n), "", "x"))
	}
	laid(t, d, journal.Name(9), "") // without a text, but there
	all := []string{"0", "", "x", "3", "", "x", "4", "", "x", "7", "", "x"}
	for from, at := range map[int]int{0: 0, 1: 3, 2: 3, 3: 3, 4: 6, 5: 9, 7: 9, 8: 12, 9: 12, 10: 12} {
		opened(t, d, from, 10, all[at:]...)
	}
	for _, from := range []int{10, 11, 500, 1 << 30} {
		opened(t, d, from, from)
	}
	laid(t, d, journal.Name(1<<30+5), framed("above"))
	for from, at := range map[int]int{0: 0, 7: 9, 8: 12, 500: 12, 1 << 30: 12} {
		opened(t, d, from, 1<<30+6, append(slices.Clone(all[at:]), "above")...)
	}
}

// P7.1: Open writes nothing: neither bytes nor files, and it is no deed.
func TestOpenWritesNothing(t *testing.T) {
	d := disk.New(1000)
	laid(t, d, journal.Name(2), framed("a")+"torn")
	laid(t, d, "other", "x")
	before := files(t, d)
	d.Arm(0)
	opened(t, d, 0, 3, "a")
	opened(t, d, 2, 3, "a")
	opened(t, d, 3, 3)
	opened(t, d, 100, 100)
	if d.Dead() || !maps.Equal(files(t, d), before) {
		t.Error("something was written")
	}
}

// P7.1: of a segment that is spoilt or cut off anywhere the texts ahead of that are there, and all those of the other segments.
func TestSpoiltSegments(t *testing.T) {
	texts := []string{"first", "", "third text", "4"}
	whole := framed(texts...)
	ends := []int{0}
	for i := range texts {
		ends = append(ends, len(framed(texts[:i+1]...)))
	}
	for at := range len(whole) {
		left := 0 // texts that end ahead of it
		for ends[left+1] <= at {
			left++
		}
		for _, b := range []string{whole[:at], whole[:at] + "\x00" + whole[at:], whole[:at] + string([]byte{whole[at] ^ 1}) + whole[at+1:]} {
			d := disk.New(1000)
			laid(t, d, journal.Name(1), framed("ahead"))
			laid(t, d, journal.Name(2), b)
			laid(t, d, journal.Name(3), framed("behind"))
			want := append(append([]string{"ahead"}, texts[:left]...), "behind")
			opened(t, d, 0, 4, want...)
		}
	}
}

// P7.1: what Add writes: frames, one behind the other, in the segment that is told, and sure.
func TestAdd(t *testing.T) {
	d := disk.New(1 << 20)
	laid(t, d, "other", "x")
	j := opened(t, d, 3, 3)
	segments(t, d) // a segment is there from its first text on
	most := strings.Repeat("m", api.MaxText)
	added(t, j, "a", "", "b\x00\xff", most)
	turned(t, j, 4)
	turned(t, j, 5)
	added(t, j, framed("a frame"), "")
	want := map[string]string{
		"other": "x", "log-0000000003": framed("a", "", "b\x00\xff", most), "log-0000000005": framed(framed("a frame"), ""),
	}
	if !maps.Equal(files(t, d), want) {
		t.Error("other files")
	}
	d.Crash(nil) // what isn't sure is gone
	if !maps.Equal(files(t, d), want) {
		t.Error("not sure")
	}
	segments(t, d, 3, 5)
	opened(t, d, 0, 6, "a", "", "b\x00\xff", most, framed("a frame"), "")
}

// P7.1: a text above MaxText isn't added, and no deed.
func TestAddTooBig(t *testing.T) {
	d := disk.New(1 << 20)
	j := opened(t, d, 0, 0)
	d.Arm(0)
	for _, n := range []int{api.MaxText + 1, api.MaxText + 2, 1 << 21} { // the last one is above the room, too
		is(t, "Add", j.Add(strings.Repeat("x", n)), api.ErrBig)
	}
	if d.Dead() || d.Used() != 0 || len(d.List()) != 0 {
		t.Error("something was written")
	}
	d.Arm(-1)
	added(t, j, "a")
	opened(t, d, 0, 1, "a")
}

// P7.1: a text is two deeds.
func TestAddDeeds(t *testing.T) {
	for n := range 3 {
		d := disk.New(100)
		j := opened(t, d, 0, 0)
		d.Arm(n)
		want := []api.Errno{api.ErrDead, api.ErrDead, api.OK}[n]
		is(t, "Add", j.Add("a"), want)
		if d.Dead() != (n < 2) || d.Used() != 9 {
			t.Errorf("armed with %d: %v, %d", n, d.Dead(), d.Used())
		}
	}
}

// P7.1: where texts go: Turn is told by nothing that is written.
func TestTurn(t *testing.T) {
	d := disk.New(1000)
	j := opened(t, d, 0, 0)
	d.Arm(0)
	for n := range 5 {
		turned(t, j, n+1)
	}
	d.Arm(-1)
	segments(t, d)
	opened(t, d, 0, 0)
	added(t, j, "a")
	segments(t, d, 5)
	j = opened(t, d, api.MaxEpoch, 1<<30)
	turned(t, j, 1<<30+1)
	added(t, j, "b")
	opened(t, d, 0, 1<<30+2, "a", "b")
}

// P7.1: which segments are dropped.
func TestDrop(t *testing.T) {
	all := []int{0, 2, 3, 7, 8} // texts go into 8
	for below, kept := range map[int][]int{
		math.MinInt: all, -1: all, 0: all, 1: all[1:], 2: all[1:], 3: all[2:], 4: all[3:], 7: all[3:], 8: all[4:],
		9: all[4:], 100: all[4:], math.MaxInt: all[4:],
	} {
		for _, from := range []int{0, 3, 8} { // those ahead of the journal's first one, too
			d := disk.New(1000)
			for _, n := range all[:4] {
				laid(t, d, journal.Name(n), framed(fmt.Sprint(n)))
			}
			laid(t, d, "other", "x")
			laid(t, d, "log-1", "x")
			j, _, e := journal.Open(d, from)
			is(t, "Open", e, api.OK)
			added(t, j, "8")
			for range 2 {
				is(t, "Drop", j.Drop(below), api.OK)
				segments(t, d, kept...)
			}
			if l := d.List(); len(l) != len(kept)+2 || j.Now() != 8 {
				t.Errorf("%q, %d", l, j.Now())
			}
			want := []string{}
			for _, n := range append(slices.Clone(kept), 8) {
				want = append(want, fmt.Sprint(n))
			}
			added(t, j, "8") // what was dropped doesn't touch the segment that takes texts
			opened(t, d, 0, 9, want...)
		}
	}
}

// P7.1: the segment that takes texts stays, whether or not it is there.
func TestDropLeavesNow(t *testing.T) {
	d := disk.New(1000)
	j := opened(t, d, 0, 0)
	added(t, j, "a")
	is(t, "Drop", j.Drop(50), api.OK)
	added(t, j, "b")
	opened(t, d, 0, 1, "a", "b")
	turned(t, j, 1)
	is(t, "Drop", j.Drop(50), api.OK)
	segments(t, d)
	added(t, j, "c")
	is(t, "Drop", j.Drop(50), api.OK)
	opened(t, d, 0, 2, "c")
}

// P7.1: the first segment goes first, each by one deed.
func TestDropOrder(t *testing.T) {
	all := []int{1, 4, 5, 10, 11}
	for n := range 6 {
		d := disk.New(1000)
		for _, n := range []int{10, 1, 5, 4, 11} {
			laid(t, d, journal.Name(n), framed(fmt.Sprint(n)))
		}
		j := opened(t, d, 0, 12, "1", "4", "5", "10", "11")
		d.Arm(n)
		want := api.ErrDead
		if n > 3 {
			want = api.OK
		}
		is(t, "Drop", j.Drop(11), want)
		if d.Dead() != (n <= 3) {
			t.Errorf("armed with %d: %v", n, d.Dead())
		}
		d.Crash(nil)
		segments(t, d, all[min(n, 4):]...)
	}
}

// P7.3: what doesn't go in changes nothing: no bytes, no file, no deed.
func TestFull(t *testing.T) {
	d := disk.New(40)
	laid(t, d, "other", "1234567890")
	j := opened(t, d, 0, 0)
	full := func(s string) {
		t.Helper()
		before := files(t, d)
		d.Arm(0)
		is(t, "Add", j.Add(s), api.ErrFull)
		if d.Dead() || !maps.Equal(files(t, d), before) {
			t.Fatal("something has changed")
		}
		d.Arm(-1)
	}
	full(strings.Repeat("x", 23))
	full(strings.Repeat("x", api.MaxText))
	segments(t, d)
	opened(t, d, 0, 0)
	added(t, j, strings.Repeat("x", 10))
	full(strings.Repeat("x", 5))
	opened(t, d, 0, 1, strings.Repeat("x", 10))
	turned(t, j, 1)
	full(strings.Repeat("x", 5))
	segments(t, d, 0)
	added(t, j, "1234")
	full("")
	opened(t, d, 0, 2, strings.Repeat("x", 10), "1234")
	is(t, "Drop", j.Drop(1), api.OK)
	added(t, j, strings.Repeat("y", 10)) // the journal goes on, once there is room
	full("")
	d.Crash(nil)
	opened(t, d, 0, 2, "1234", strings.Repeat("y", 10))
}

// P7.3: nor is there a segment more than there may be files.
func TestMostFiles(t *testing.T) {
	d := disk.New(1 << 20)
	j := opened(t, d, 0, 0)
	for range api.MaxFiles {
		added(t, j, "x")
		j.Turn()
	}
	d.Arm(0)
	is(t, "Add", j.Add("y"), api.ErrFull)
	if d.Dead() || len(d.List()) != 4096 || d.Used() != 4096*9 {
		t.Errorf("%d, %d", len(d.List()), d.Used())
	}
	d.Arm(-1)
	is(t, "Drop", j.Drop(1), api.OK)
	added(t, j, "y", "z")
	if _, l, _ := journal.Open(d, 4090); !slices.Equal(l, []string{"x", "x", "x", "x", "x", "x", "y", "z"}) {
		t.Errorf("%q", l)
	}
}

// part is a segment by the chapter's words: its texts, and how many bytes its file has.
type part struct {
	texts []string
	size  int
}

// plain is a journal and its disk by the chapter's words.
type plain struct {
	room  int
	parts map[int]part
	now   int
	torn  map[int]string // the text, if there is one, that was being added when the disk died, by its segment
	left  int            // deeds ahead of the one at which it dies; below 0: it isn't armed
	dead  bool
}

func (p *plain) used() int {
	n := 0
	for _, x := range p.parts {
		n += x.size
	}
	return n
}

func (p *plain) segments() []int {
	if p.dead {
		return nil
	}
	return slices.Sorted(maps.Keys(p.parts))
}

// dies: does the disk die at the next deed?
func (p *plain) dies() bool {
	p.left--
	p.dead = p.left == -1
	return p.dead
}

func (p *plain) open(from int) ([]string, api.Errno) {
	switch {
	case from < 0 || from > 1<<30:
		return nil, api.ErrArg
	case p.dead:
		return nil, api.ErrDead
	}
	var texts []string
	p.now = from
	for _, n := range p.segments() {
		if n >= from {
			texts = append(texts, p.parts[n].texts...)
			p.now = n + 1
		}
	}
	return texts, api.OK
}

func (p *plain) add(s string) api.Errno {
	switch {
	case len(s) > 65536:
		return api.ErrBig
	case p.dead:
		return api.ErrDead
	case p.used()+8+len(s) > p.room:
		return api.ErrFull
	}
	x := p.parts[p.now]
	x.size += 8 + len(s)
	p.parts[p.now] = x
	if p.dies() || p.dies() { // Append, Sync
		p.torn = map[int]string{p.now: s}
		return api.ErrDead
	}
	x.texts = append(slices.Clone(x.texts), s)
	p.parts[p.now] = x
	return api.OK
}

func (p *plain) drop(below int) api.Errno {
	if p.dead {
		return api.ErrDead
	}
	for _, n := range p.segments() {
		if n < below && n != p.now {
			if p.dies() {
				return api.ErrDead
			}
			delete(p.parts, n)
		}
	}
	return api.OK
}

// crash: of the text that was being added so many bytes are kept, modulo all of them and one.
func (p *plain) crash(keep int) {
	p.dead, p.left = false, -1
	for n, s := range p.torn {
		all := 8 + len(s)
		kept := (keep%(all+1) + all + 1) % (all + 1)
		x := p.parts[n]
		x.size += kept - all
		if kept == all {
			x.texts = append(slices.Clone(x.texts), s)
		}
		p.parts[n] = x
	}
	p.torn = nil
}

// play is a journal on a disk, and the plain one beside it.
type play struct {
	d     *disk.Disk
	j     *journal.Journal
	p     *plain
	count map[string]int
}

func began(t *testing.T, room int) *play {
	t.Helper()
	g := &play{d: disk.New(room), p: &plain{room: room, parts: map[int]part{}, left: -1}, count: map[string]int{}}
	g.open(t, 0)
	return g
}

func (g *play) open(t *testing.T, from int) {
	t.Helper()
	j, l, e := journal.Open(g.d, from)
	before := g.p.now
	want, wantE := g.p.open(from)
	if e != wantE || !slices.Equal(l, want) || (j == nil) != (e != api.OK) {
		t.Fatalf("Open(%d): %.60q, %d instead of %.60q, %d", from, l, e, want, wantE)
	}
	if e == api.OK {
		g.j = j
	} else {
		g.p.now = before
	}
	g.count[fmt.Sprint("Open", e)]++
}

// crash, and what is done behind it: the journal is opened anew, from its beginning.
func (g *play) crash(t *testing.T, keep int) {
	t.Helper()
	g.d.Crash([]int{keep})
	had := len(told(g.p))
	g.p.crash(keep)
	if len(told(g.p)) > had {
		g.count["one more"]++
	}
	g.count["Crash"]++
	g.open(t, 0)
}

func told(p *plain) []string {
	var l []string
	for _, x := range p.parts {
		l = append(l, x.texts...)
	}
	return l
}

// act is one thing, thrown by dice.
func (g *play) act(t *testing.T, r *dice) {
	t.Helper()
	switch what := r.roll(20); {
	case what < 10:
		s := r.mixed(r.roll(20))
		if r.roll(50) == 0 {
			s = strings.Repeat("x", api.MaxText+1)
		}
		e := g.j.Add(s)
		is(t, "Add", e, g.p.add(s))
		g.count[fmt.Sprint("Add", e)]++
	case what < 13:
		g.p.now++
		if n := g.j.Turn(); n != g.p.now {
			t.Fatalf("Turn: %d instead of %d", n, g.p.now)
		}
	case what < 16:
		below := g.p.now - r.roll(6) + 2
		e := g.j.Drop(below)
		is(t, "Drop", e, g.p.drop(below))
		g.count[fmt.Sprint("Drop", e)]++
	default:
		g.open(t, []int{0, 0, g.p.now - 1, g.p.now, g.p.now + 1, -1, 1<<30 + 1}[r.roll(7)])
	}
}

// same: are both alike in all that can be asked?
func (g *play) same(t *testing.T) {
	t.Helper()
	for range 2 { // asking changes nothing
		segments(t, g.d, g.p.segments()...)
		if g.j.Now() != g.p.now || g.d.Used() != g.p.used() || g.d.Dead() != g.p.dead {
			t.Fatalf("%d, %d, %v instead of %d, %d, %v", g.j.Now(), g.d.Used(), g.d.Dead(), g.p.now, g.p.used(), g.p.dead)
		}
	}
}

// P7.1, P7.2, P7.3: any calls behind any calls, deaths and crashes, held against the chapter's words.
func TestAnyCalls(t *testing.T) {
	count := map[string]int{}
	for seed := range 600 {
		r := dice(seed)
		g := began(t, []int{100, 500, 100000}[seed%3])
		g.count = count
		for range 100 {
			switch r.roll(8) {
			case 0:
				if !g.d.Dead() {
					n := r.roll(8)
					g.d.Arm(n)
					g.p.left = n
				}
			case 1:
				g.crash(t, r.roll(60)-30)
			default:
				g.act(t, &r)
			}
			g.same(t)
		}
	}
	for _, what := range []string{"Open0", "Open1", "Open10", "Add0", "Add2", "Add9", "Add10", "Drop0", "Drop10", "Crash"} {
		if count[what] < 200 {
			t.Errorf("%s but %d times: %v", what, count[what], count)
		}
	}
	if count["one more"] < 50 {
		t.Errorf("one more but %d times", count["one more"])
	}
}

// P7.2: at whichever deed the disk dies, and however much is kept of what isn't sure, the texts are those that were answered OK, and one more just if all of it was kept; they are still there behind the next crash.
func TestEveryDeath(t *testing.T) {
	count := map[string]int{}
	for seed := range 20 {
		for deed := range 25 {
			for keep := range 29 {
				r := dice(seed)
				g := began(t, 10000)
				g.count = count
				g.d.Arm(deed)
				g.p.left = deed
				for !g.d.Dead() {
					g.act(t, &r)
				}
				g.crash(t, keep)
				added(t, g.j, "more")
				is(t, "Add", g.p.add("more"), api.OK)
				g.crash(t, 0)
				g.same(t)
			}
		}
	}
	if count["one more"] < 100 || count["Drop10"] < 100 {
		t.Errorf("%v", count)
	}
}

// P7.2: a crash of a living disk leaves all of it.
func TestCrashOfALivingDisk(t *testing.T) {
	d := disk.New(1000)
	j := opened(t, d, 0, 0)
	added(t, j, "a", "b")
	turned(t, j, 1)
	added(t, j, "c")
	for range 3 {
		d.Crash(nil)
		opened(t, d, 0, 2, "a", "b", "c")
	}
}

// P7.2: behind a torn frame no text is lost: the next ones go into another segment.
func TestBehindATornFrame(t *testing.T) {
	whole := len(framed("torn"))
	for keep := range whole + 1 {
		d := disk.New(1000)
		j := opened(t, d, 0, 0)
		added(t, j, "a")
		want := []string{"a"}
		for n := range 5 {
			d.Arm(n % 2)
			is(t, "Add", j.Add("torn"), api.ErrDead)
			// Segment n is the only one of which anything isn't sure.
			d.Crash([]int{keep})
			if keep == whole {
				want = append(want, "torn")
			}
			j = opened(t, d, 0, n+1, want...)
			added(t, j, "next")
			want = append(want, "next")
		}
		opened(t, d, 0, 6, want...)
	}
}

// lent is a text whose bytes can be made others, as those of nobody's memory can't.
func lent(s string) (string, []byte) {
	b := []byte(s)
	return unsafe.String(unsafe.SliceData(b), len(b)), b
}

// within: does a part's first byte lie in the whole's memory?
func within(whole, part string) bool {
	from := uintptr(unsafe.Pointer(unsafe.StringData(whole)))
	at := uintptr(unsafe.Pointer(unsafe.StringData(part)))
	return at >= from && at < from+uintptr(len(whole))
}

// P7.1: what is handed in isn't kept, and answers are nobody's but the caller's (K3).
func TestMemory(t *testing.T) {
	d := disk.New(1000)
	j := opened(t, d, 0, 0)
	first := strings.Repeat("first", 5)
	s, b := lent(first)
	added(t, j, s, "second")
	for i := range b {
		b[i] ^= 0x55
	}
	turned(t, j, 1)
	added(t, j, "third")
	_, l, _ := journal.Open(d, 0)
	_, twin, _ := journal.Open(d, 0)
	if within(l[0], twin[0]) || within(l[0], l[1]) || within(l[0], first) {
		t.Error("texts share memory")
	}
	l[0], l[1] = "x", "y"
	_ = append(l[:1], "z")
	numbers := journal.Segments(d)
	numbers[0] = 7
	segments(t, d, 0, 1)
	if !slices.Equal(twin, []string{first, "second", "third"}) {
		t.Errorf("%q", twin)
	}
	opened(t, d, 0, 2, first, "second", "third")
}

// P7.1: two journals on two disks have nothing in common.
func TestTwoJournals(t *testing.T) {
	d, other := disk.New(100), disk.New(100)
	j, k := opened(t, d, 0, 0), opened(t, other, 4, 4)
	added(t, j, "a")
	added(t, k, "b")
	turned(t, j, 1)
	is(t, "Drop", k.Drop(100), api.OK)
	other.Arm(0)
	is(t, "Add", k.Add("c"), api.ErrDead)
	added(t, j, "d")
	opened(t, d, 0, 2, "a", "d")
	other.Crash(nil)
	opened(t, other, 0, 5, "b")
}
