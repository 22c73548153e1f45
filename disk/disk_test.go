package disk_test

import (
	"fmt"
	"math"
	"slices"
	"sort"
	"strings"
	"testing"
	"unsafe"

	"chirograph/api"
	"chirograph/disk"
)

// sheet is a file by the chapter's words: what is sure of it, and what isn't.
type sheet struct {
	name, sure, loose string
}

// plain is a disk by the chapter's words.
type plain struct {
	room   int
	sheets []sheet
	armed  bool
	left   int
	dead   bool
}

func (p *plain) place(name string) int {
	return slices.IndexFunc(p.sheets, func(s sheet) bool { return s.name == name })
}

func (p *plain) used() int {
	n := 0
	for _, s := range p.sheets {
		n += len(s.sure + s.loose)
	}
	return n
}

// dies: a deed that has no other error comes: does the disk die at it?
func (p *plain) dies() bool {
	if p.armed && p.left == 0 {
		p.dead, p.armed = true, false
		return true
	}
	p.left--
	return false
}

func (p *plain) append(name, b string) api.Errno {
	at := p.place(name)
	switch {
	case p.dead:
		return api.ErrDead
	case len(name) < 1 || len(name) > 100:
		return api.ErrArg
	case p.used()+len(b) > p.room || at < 0 && len(p.sheets) == 4096:
		return api.ErrFull
	}
	if at < 0 {
		p.sheets = append(p.sheets, sheet{name: name})
		at = len(p.sheets) - 1
	}
	p.sheets[at].loose += b
	if p.dies() {
		return api.ErrDead
	}
	return api.OK
}

// missing: the error of a deed on a file.
func (p *plain) missing(name string) api.Errno {
	switch {
	case p.dead:
		return api.ErrDead
	case p.place(name) < 0:
		return api.ErrNone
	case p.dies():
		return api.ErrDead
	}
	return api.OK
}

func (p *plain) sync(name string) api.Errno {
	e := p.missing(name)
	if e == api.OK {
		s := &p.sheets[p.place(name)]
		s.sure, s.loose = s.sure+s.loose, ""
	}
	return e
}

func (p *plain) remove(name string) api.Errno {
	e := p.missing(name)
	if e == api.OK {
		p.sheets = slices.Delete(p.sheets, p.place(name), p.place(name)+1)
	}
	return e
}

func (p *plain) rename(from, to string) api.Errno {
	if !p.dead && (len(to) < 1 || len(to) > 100) {
		return api.ErrArg
	}
	e := p.missing(from)
	if e == api.OK {
		moved := p.sheets[p.place(from)]
		moved.name = to
		p.sheets = slices.DeleteFunc(p.sheets, func(s sheet) bool { return s.name == from || s.name == to })
		p.sheets = append(p.sheets, moved)
	}
	return e
}

func (p *plain) read(name string) (string, api.Errno) {
	switch at := p.place(name); {
	case p.dead:
		return "", api.ErrDead
	case at < 0:
		return "", api.ErrNone
	default:
		return p.sheets[at].sure + p.sheets[at].loose, api.OK
	}
}

func (p *plain) list() []string {
	var l []string
	for _, s := range p.sheets {
		if !p.dead {
			l = append(l, s.name)
		}
	}
	sort.Strings(l)
	return l
}

func (p *plain) arm(n int) {
	if !p.dead {
		p.armed, p.left = n >= 0, n
	}
}

func (p *plain) crash(keeps []int) {
	p.dead, p.armed = false, false
	for i, name := range p.list() {
		s := &p.sheets[p.place(name)]
		k := kept(keeps, i, len(s.loose))
		s.sure, s.loose = s.sure+s.loose[:k], ""
	}
}

func (p *plain) spoil(name string, at int, x byte) api.Errno {
	i := p.place(name)
	if i < 0 {
		return api.ErrNone
	}
	s := &p.sheets[i]
	switch {
	case at >= 0 && at < len(s.sure):
		s.sure = xored(s.sure, at, x)
	case at >= len(s.sure) && at < len(s.sure+s.loose):
		s.loose = xored(s.loose, at-len(s.sure), x)
	default:
		return api.ErrArg
	}
	return api.OK
}

func xored(s string, at int, x byte) string {
	return s[:at] + string([]byte{s[at] ^ x}) + s[at+1:]
}

// dice are numbers of all kinds, other ones for each seed.
type dice uint32

func (d *dice) roll(n int) int {
	*d = *d*1664525 + 1013904223
	return int(*d>>8) % n
}

// mixed is a text of n bytes of all kinds.
func (d *dice) mixed(n int) string {
	b := make([]byte, n)
	for i := range b {
		b[i] = byte(d.roll(256))
	}
	return string(b)
}

// names are few, so that they meet; some are none.
func names() []string {
	return []string{"a", "b", "ab", "b\x00", "\xff", "B", strings.Repeat("n", 100), "", strings.Repeat("n", 101)}
}

// same: are a disk and a plain one alike in all that can be asked?
func same(t *testing.T, d *disk.Disk, p *plain, names []string) {
	t.Helper()
	for range 2 { // asking changes nothing
		if d.Dead() != p.dead || d.Used() != p.used() || !slices.Equal(d.List(), p.list()) {
			t.Fatalf("%v, %d, %q instead of %v, %d, %q", d.Dead(), d.Used(), d.List(), p.dead, p.used(), p.list())
		}
		for _, name := range names {
			s, e := d.Read(name)
			if want, wantE := p.read(name); s != want || e != wantE {
				t.Fatalf("Read(%.5q): %q, %d instead of %q, %d", name, s, e, want, wantE)
			}
		}
	}
}

func is(t *testing.T, what string, got, want api.Errno) {
	t.Helper()
	if got != want {
		t.Fatalf("%s: %d instead of %d", what, got, want)
	}
}

func holds(t *testing.T, d *disk.Disk, name, want string) {
	t.Helper()
	if s, e := d.Read(name); s != want || e != api.OK {
		t.Fatalf("Read(%.20q): %.40q, %d instead of %.40q", name, s, e, want)
	}
}

// act does one thing, thrown by dice, to a disk and to a plain one, and tells what it was and what came of it.
func act(t *testing.T, d *disk.Disk, p *plain, r *dice) string {
	t.Helper()
	l := names()
	a, b := l[r.roll(len(l))], l[r.roll(len(l))]
	switch what := r.roll(20); {
	case what < 7:
		s := r.mixed(r.roll(9))
		e := d.Append(a, s)
		is(t, "Append", e, p.append(a, s))
		return fmt.Sprint("Append", e)
	case what < 10:
		e := d.Sync(a)
		is(t, "Sync", e, p.sync(a))
		return fmt.Sprint("Sync", e)
	case what < 13:
		e := d.Rename(a, b)
		is(t, "Rename", e, p.rename(a, b))
		return fmt.Sprint("Rename", e)
	case what < 15:
		e := d.Remove(a)
		is(t, "Remove", e, p.remove(a))
		return fmt.Sprint("Remove", e)
	case what < 17:
		n := r.roll(9) - 2
		d.Arm(n)
		p.arm(n)
		return "Arm"
	case what < 19:
		at, x := r.roll(14)-2, byte(r.roll(256))
		e := d.Spoil(a, at, x)
		is(t, "Spoil", e, p.spoil(a, at, x))
		return fmt.Sprint("Spoil", e)
	default:
		var keeps []int
		for range r.roll(5) {
			keeps = append(keeps, r.roll(30)-10)
		}
		d.Crash(keeps)
		p.crash(keeps)
		return "Crash"
	}
}

// P5.1: any calls behind any calls, held against the chapter's words.
func TestAnyCalls(t *testing.T) {
	count := map[string]int{}
	for seed := range 400 {
		r := dice(seed)
		room := []int{0, 3, 20, 40, 1000, math.MaxInt, -5}[seed%7]
		d, p := disk.New(room), &plain{room: max(room, 0)}
		same(t, d, p, names())
		for range 150 {
			count[act(t, d, p, &r)]++
			same(t, d, p, names())
		}
	}
	for _, what := range []string{"Append 0", "Append 1", "Append 9", "Append 10", "Sync 0", "Sync 7", "Sync 10", "Rename 0", "Rename 1", "Rename 7", "Rename 10", "Remove 0", "Remove 7", "Remove 10", "Spoil 0", "Spoil 1", "Spoil 7", "Arm", "Crash"} {
		if what = strings.ReplaceAll(what, " ", ""); count[what] < 100 {
			t.Errorf("%s but %d times: %v", what, count[what], count)
		}
	}
}

// P5.1: the chapter's examples.
func TestExample(t *testing.T) {
	for keep, want := range map[int]string{0: "", 1: "q"} {
		d := disk.New(100)
		is(t, "Append", d.Append("a", "xyz"), api.OK)
		is(t, "Sync", d.Sync("a"), api.OK)
		is(t, "Append", d.Append("a", "uv"), api.OK)
		d.Crash([]int{1})
		holds(t, d, "a", "xyzu")
		d.Arm(0)
		is(t, "Append", d.Append("b", "q"), api.ErrDead)
		d.Crash([]int{keep})
		holds(t, d, "b", want)
		holds(t, d, "a", "xyzu")
		if !slices.Equal(d.List(), []string{"a", "b"}) {
			t.Errorf("%q", d.List())
		}
	}
}

// P5.1: a disk that is new.
func TestNew(t *testing.T) {
	for _, room := range []int{math.MinInt, -1, 0, 1, 1 << 40, math.MaxInt} {
		d := disk.New(room)
		same(t, d, &plain{}, names())
		for range 10 { // not armed
			is(t, "Append", d.Append("a", ""), api.OK)
			is(t, "Sync", d.Sync("a"), api.OK)
		}
		want := api.OK
		if room < 1 {
			want = api.ErrFull
		}
		is(t, "Append", d.Append("a", "x"), want)
	}
}

// P5.1: which names there are: one byte to MaxKey bytes, of any kind.
func TestNames(t *testing.T) {
	d := disk.New(1 << 20)
	long := strings.Repeat("é", 50)
	for _, name := range []string{"x", "\x00", "\xff", "a/b", "..", strings.Repeat("z", 99), strings.Repeat("z", 100), long} {
		is(t, "Append", d.Append(name, name), api.OK)
		holds(t, d, name, name)
		is(t, "Rename", d.Rename(name, name), api.OK)
	}
	if !slices.Equal(d.List(), []string{"\x00", "..", "a/b", "x", strings.Repeat("z", 99), strings.Repeat("z", 100), long, "\xff"}) {
		t.Errorf("%q", d.List())
	}
	before := d.List()
	for _, name := range []string{"", strings.Repeat("z", 101), long + "x", strings.Repeat("z", 100000)} {
		is(t, "Append", d.Append(name, ""), api.ErrArg)
		is(t, "Append above the room", d.Append(name, strings.Repeat("x", 1<<21)), api.ErrArg)
		is(t, "Rename to it", d.Rename("x", name), api.ErrArg)
		is(t, "Rename of none to it", d.Rename("none", name), api.ErrArg)
		is(t, "Rename of it", d.Rename(name, "y"), api.ErrNone)
		is(t, "Rename of it to it", d.Rename(name, name), api.ErrArg)
		is(t, "Sync", d.Sync(name), api.ErrNone)
		is(t, "Remove", d.Remove(name), api.ErrNone)
		is(t, "Spoil", d.Spoil(name, 0, 1), api.ErrNone)
		if s, e := d.Read(name); s != "" || e != api.ErrNone {
			t.Errorf("Read: %q, %d", s, e)
		}
	}
	if !slices.Equal(d.List(), before) {
		t.Errorf("%q", d.List())
	}
}

// P5.1: the room is that of all files together, and what goes leaves its room.
func TestRoom(t *testing.T) {
	d := disk.New(10)
	is(t, "Append", d.Append("a", "12345"), api.OK)
	is(t, "Append", d.Append("b", "123456"), api.ErrFull)
	if len(d.List()) != 1 || d.Used() != 5 {
		t.Errorf("made: %q, %d", d.List(), d.Used())
	}
	is(t, "Append", d.Append("b", "12345"), api.OK)
	is(t, "Append", d.Append("a", "x"), api.ErrFull)
	is(t, "Append", d.Append("a", ""), api.OK)
	is(t, "Append", d.Append("c", ""), api.OK)
	is(t, "Append", d.Append("c", strings.Repeat("x", 1<<20)), api.ErrFull)
	is(t, "Rename", d.Rename("b", "a"), api.OK)
	if d.Used() != 5 {
		t.Errorf("behind Rename: %d", d.Used())
	}
	is(t, "Append", d.Append("c", "123456"), api.ErrFull)
	is(t, "Append", d.Append("c", "12345"), api.OK)
	is(t, "Rename", d.Rename("c", "c"), api.OK)
	if d.Used() != 10 {
		t.Errorf("behind Rename to itself: %d", d.Used())
	}
	is(t, "Remove", d.Remove("c"), api.OK)
	is(t, "Append", d.Append("d", "123456"), api.ErrFull)
	is(t, "Append", d.Append("d", "12345"), api.OK)
	is(t, "Sync", d.Sync("a"), api.OK)
	d.Crash([]int{0, 2})
	if d.Used() != 7 {
		t.Errorf("behind Crash: %d", d.Used())
	}
	is(t, "Append", d.Append("d", "1234"), api.ErrFull)
	is(t, "Append", d.Append("d", "123"), api.OK)
	holds(t, d, "a", "12345")
	holds(t, d, "d", "12123")
}

// P5.1: at most MaxFiles files.
func TestMostFiles(t *testing.T) {
	d := disk.New(1 << 20)
	for i := range api.MaxFiles {
		is(t, "Append", d.Append(fmt.Sprint(i), "x"), api.OK)
	}
	is(t, "one more", d.Append("more", ""), api.ErrFull)
	is(t, "one more", d.Append("more", "x"), api.ErrFull)
	is(t, "one more without a name", d.Append("", ""), api.ErrArg)
	if len(d.List()) != 4096 || d.Used() != 4096 {
		t.Errorf("%d, %d", len(d.List()), d.Used())
	}
	is(t, "one of them", d.Append("4095", "y"), api.OK)
	is(t, "another name", d.Rename("4095", "more"), api.OK)
	holds(t, d, "more", "xy")
	is(t, "the old name", d.Append("4095", ""), api.ErrFull)
	is(t, "upon another", d.Rename("more", "0"), api.OK)
	is(t, "in its place", d.Append("4095", ""), api.OK)
	is(t, "one more", d.Append("4096", ""), api.ErrFull)
	is(t, "Remove", d.Remove("17"), api.OK)
	d.Crash(nil)
	is(t, "in its place", d.Append("4096", ""), api.OK)
	is(t, "one more", d.Append("17", ""), api.ErrFull)
}

// P5.1: what is renamed keeps its bytes and what of them is sure; what was called so is gone.
func TestRename(t *testing.T) {
	made := func() *disk.Disk {
		d := disk.New(100)
		is(t, "Append", d.Append("a", "sure"), api.OK)
		is(t, "Sync", d.Sync("a"), api.OK)
		is(t, "Append", d.Append("a", "loose"), api.OK)
		is(t, "Append", d.Append("b", "other bytes"), api.OK)
		is(t, "Sync", d.Sync("b"), api.OK)
		return d
	}
	for _, to := range []string{"a", "b", "c"} {
		d := made()
		is(t, "Rename", d.Rename("a", to), api.OK)
		holds(t, d, to, "sureloose")
		if to != "a" {
			if s, e := d.Read("a"); s != "" || e != api.ErrNone {
				t.Errorf("a: %q, %d", s, e)
			}
		}
		d.Crash([]int{2})
		holds(t, d, to, "surelo")
	}
	d := made() // sure at once
	is(t, "Rename", d.Rename("b", "a"), api.OK)
	is(t, "Append", d.Append("c", "x"), api.OK)
	is(t, "Remove", d.Remove("c"), api.OK)
	d.Crash(nil)
	holds(t, d, "a", "other bytes")
	if !slices.Equal(d.List(), []string{"a"}) {
		t.Errorf("%q", d.List())
	}
}

// deeds are the four kinds of deeds, each of them one that has no other error on a disk of a and b.
func deeds() map[string]func(d *disk.Disk) api.Errno {
	return map[string]func(d *disk.Disk) api.Errno{
		"Append": func(d *disk.Disk) api.Errno { return d.Append("a", "more") },
		"Make":   func(d *disk.Disk) api.Errno { return d.Append("new", "more") },
		"Sync":   func(d *disk.Disk) api.Errno { return d.Sync("a") },
		"Rename": func(d *disk.Disk) api.Errno { return d.Rename("a", "b") },
		"Itself": func(d *disk.Disk) api.Errno { return d.Rename("a", "a") },
		"Remove": func(d *disk.Disk) api.Errno { return d.Remove("a") },
	}
}

// lettered is a disk of a, of which "123" are sure and "45" aren't, and of b.
func lettered(t *testing.T) *disk.Disk {
	t.Helper()
	d := disk.New(50)
	is(t, "Append", d.Append("a", "123"), api.OK)
	is(t, "Sync", d.Sync("a"), api.OK)
	is(t, "Append", d.Append("a", "45"), api.OK)
	is(t, "Append", d.Append("b", "678"), api.OK)
	is(t, "Sync", d.Sync("b"), api.OK)
	return d
}

// P5.1: at each kind of deed the disk dies, behind so many others.
func TestDeath(t *testing.T) {
	for what, deed := range deeds() {
		for n := range 5 {
			d := lettered(t)
			d.Arm(n)
			for range n {
				is(t, "ahead of it", d.Append("b", "."), api.OK)
			}
			if d.Dead() {
				t.Fatal("too soon")
			}
			is(t, what, deed(d), api.ErrDead)
			used := map[string]int{"Append": 12, "Make": 12}[what]
			if !d.Dead() || d.List() != nil || d.Used() != max(used, 8)+n {
				t.Errorf("%s: %v, %q, %d", what, d.Dead(), d.List(), d.Used())
			}
			for again, deed := range deeds() {
				is(t, again, deed(d), api.ErrDead)
			}
			d.Crash([]int{-1}) // all that isn't sure
			a, l := "12345", []string{"a", "b"}
			switch what {
			case "Append":
				a += "more"
			case "Make":
				l = append(l, "new")
				holds(t, d, "new", "more")
			}
			holds(t, d, "a", a)
			holds(t, d, "b", "678"+strings.Repeat(".", n))
			if !slices.Equal(d.List(), l) || d.Dead() {
				t.Errorf("%s: %q", what, d.List())
			}
		}
	}
}

// P5.1, P5.2: what a deed that died would have made sure isn't.
func TestDeathLeavesNothingSure(t *testing.T) {
	for what, deed := range deeds() {
		d := lettered(t)
		d.Arm(0)
		is(t, what, deed(d), api.ErrDead)
		d.Crash(nil)
		holds(t, d, "a", "123")
		holds(t, d, "b", "678")
		if what == "Make" {
			holds(t, d, "new", "")
		}
	}
}

// P5.1: a deed that has another error is none: nothing is counted, and nothing dies.
func TestErrorsAreNoDeeds(t *testing.T) {
	for n := range 3 {
		d := lettered(t)
		d.Arm(n)
		for range 10 {
			is(t, "Append", d.Append("", "x"), api.ErrArg)
			is(t, "Append", d.Append("a", strings.Repeat("x", 43)), api.ErrFull)
			is(t, "Sync", d.Sync("c"), api.ErrNone)
			is(t, "Rename", d.Rename("a", ""), api.ErrArg)
			is(t, "Rename", d.Rename("c", "a"), api.ErrNone)
			is(t, "Remove", d.Remove("c"), api.ErrNone)
			is(t, "Spoil", d.Spoil("a", 0, 0), api.OK)
			is(t, "Spoil", d.Spoil("a", 5, 1), api.ErrArg)
			holds(t, d, "a", "12345")
			if _, e := d.Read("c"); e != api.ErrNone || d.Dead() || len(d.List()) != 2 || d.Used() != 8 {
				t.Fatalf("%d, %v, %q, %d", e, d.Dead(), d.List(), d.Used())
			}
		}
		for range n {
			is(t, "Sync", d.Sync("a"), api.OK)
		}
		is(t, "Sync", d.Sync("a"), api.ErrDead)
	}
}

// P5.1: of a dead disk ErrDead goes ahead of all others.
func TestDead(t *testing.T) {
	d := lettered(t)
	d.Arm(0)
	is(t, "Sync", d.Sync("a"), api.ErrDead)
	for range 2 {
		for _, name := range []string{"a", "c", "", strings.Repeat("x", 101)} {
			is(t, "Append", d.Append(name, "x"), api.ErrDead)
			is(t, "Append", d.Append(name, strings.Repeat("x", 100)), api.ErrDead)
			is(t, "Sync", d.Sync(name), api.ErrDead)
			is(t, "Rename", d.Rename(name, "d"), api.ErrDead)
			is(t, "Rename", d.Rename("a", name), api.ErrDead)
			is(t, "Remove", d.Remove(name), api.ErrDead)
			if s, e := d.Read(name); s != "" || e != api.ErrDead {
				t.Errorf("Read: %q, %d", s, e)
			}
		}
		if !d.Dead() || len(d.List()) != 0 || d.Used() != 8 {
			t.Errorf("%v, %q, %d", d.Dead(), d.List(), d.Used())
		}
		d.Arm(5) // it stays dead
		d.Arm(-1)
	}
	is(t, "Spoil", d.Spoil("a", 4, 1), api.OK)
	is(t, "Spoil", d.Spoil("a", 5, 1), api.ErrArg)
	is(t, "Spoil", d.Spoil("c", 0, 1), api.ErrNone)
	d.Arm(0)
	d.Crash([]int{2})
	holds(t, d, "a", "12344")
	for range 10 { // nor is it armed
		is(t, "Sync", d.Sync("a"), api.OK)
	}
}

// P5.1: the last number counts, and below 0 none.
func TestArm(t *testing.T) {
	for _, off := range []int{-1, -2, math.MinInt} {
		d := lettered(t)
		d.Arm(0)
		d.Arm(off)
		for range 20 {
			is(t, "Sync", d.Sync("a"), api.OK)
		}
		d.Arm(3)
		is(t, "Sync", d.Sync("a"), api.OK)
		d.Arm(1)
		is(t, "Sync", d.Sync("a"), api.OK)
		d.Arm(1)
		is(t, "Sync", d.Sync("a"), api.OK)
		is(t, "Sync", d.Sync("a"), api.ErrDead)
	}
	d := lettered(t)
	d.Arm(math.MaxInt)
	for range 20 {
		is(t, "Sync", d.Sync("a"), api.OK)
	}
	is(t, "Append", d.Append("a", "67"), api.OK)
	d.Arm(0)
	d.Crash(nil) // a living disk crashes too, and isn't armed then
	holds(t, d, "a", "12345")
	for range 20 {
		is(t, "Sync", d.Sync("a"), api.OK)
	}
}

// kept: how many of n bytes that aren't sure file i keeps.
func kept(keeps []int, i, n int) int {
	if len(keeps) == 0 {
		return 0
	}
	return (keeps[i%len(keeps)]%(n+1) + n + 1) % (n + 1)
}

// P5.1, P5.2: how much of each file is kept, by rising names.
func TestCrash(t *testing.T) {
	l := []string{"A", "B", "a", "aa", "b", "é"} // made in another order
	for _, keeps := range [][]int{nil, {}, {0}, {1}, {-1}, {5}, {6}, {7}, {-6}, {-7}, {math.MaxInt}, {math.MinInt}, {1, 2}, {3, -2, 4}, {0, 1, 2, 3, 4, 5}, {5, 4, 3, 2, 1, 0, 99, 98}, {math.MinInt, math.MaxInt, 600, -600}} {
		for _, dies := range []bool{false, true} {
			d := disk.New(1000)
			for _, i := range []int{3, 0, 5, 1, 4, 2} {
				is(t, "Append", d.Append(l[i], strings.Repeat("s", i)), api.OK)
				is(t, "Sync", d.Sync(l[i]), api.OK)
				is(t, "Append", d.Append(l[i], "01234"), api.OK)
			}
			if dies {
				d.Arm(0)
				is(t, "Remove", d.Remove("a"), api.ErrDead)
			}
			for _, again := range [][]int{keeps, {0}, {1}} { // what was kept is sure
				d.Crash(again)
				for i, name := range l {
					holds(t, d, name, strings.Repeat("s", i)+"01234"[:kept(keeps, i, 5)])
				}
			}
		}
	}
	d := disk.New(10) // nothing is there
	d.Crash([]int{1})
	d.Crash(nil)
	if d.Dead() || len(d.List()) != 0 || d.Used() != 0 {
		t.Error("of no files")
	}
}

// P5.2: behind what a crash cut off other bytes come, and none of those.
func TestBehindACrash(t *testing.T) {
	d := disk.New(100)
	is(t, "Append", d.Append("a", "0123456789"), api.OK)
	d.Crash([]int{4})
	is(t, "Append", d.Append("a", "x"), api.OK)
	holds(t, d, "a", "0123x")
	is(t, "Spoil", d.Spoil("a", 5, 1), api.ErrArg)
	d.Crash([]int{0})
	holds(t, d, "a", "0123")
	is(t, "Append", d.Append("a", ""), api.OK)
	is(t, "Sync", d.Sync("a"), api.OK)
	holds(t, d, "a", "0123")
	is(t, "Remove", d.Remove("a"), api.OK) // a file that is made anew has nothing of the old one
	is(t, "Append", d.Append("a", "z"), api.OK)
	d.Crash(nil)
	holds(t, d, "a", "")
}

// P5.2: whatever deeds and crashes come, what was sure of a file stays its beginning until it is gone, and what a crash leaves is a beginning of what was there.
func TestWhatIsSureStays(t *testing.T) {
	crashes := 0
	for seed := range 300 {
		r := dice(seed + 1000)
		d := disk.New(500)
		all, sure := "", ""
		for range 60 {
			switch r.roll(6) {
			case 0, 1:
				b, before := r.mixed(r.roll(6)), d.Used()
				d.Append("f", b)
				all += b[:d.Used()-before] // also where it died at this
			case 2:
				if d.Sync("f") == api.OK {
					sure = all
				}
			case 3:
				d.Arm(r.roll(4))
			default:
				d.Crash([]int{r.roll(1000) - 500})
				s, _ := d.Read("f")
				if !strings.HasPrefix(s, sure) || !strings.HasPrefix(all, s) {
					t.Fatalf("%q of %q, of which %q was sure", s, all, sure)
				}
				all, sure = s, s
				crashes++
			}
		}
	}
	if crashes < 1000 {
		t.Errorf("but %d crashes", crashes)
	}
}

// P5.1: Spoil turns one byte, sure or not, and no byte becomes sure by it.
func TestSpoil(t *testing.T) {
	d := lettered(t)
	for at := range 5 {
		for _, x := range []byte{0, 1, 0x80, 0xff} {
			is(t, "Spoil", d.Spoil("a", at, x), api.OK)
			holds(t, d, "a", xored("12345", at, x))
			is(t, "Spoil", d.Spoil("a", at, x), api.OK)
		}
	}
	for at, c := range []byte("12345") {
		is(t, "Spoil", d.Spoil("a", at, c), api.OK)
	}
	for _, at := range []int{-1, 5, 6, math.MinInt, math.MaxInt} {
		is(t, "Spoil", d.Spoil("a", at, 1), api.ErrArg)
		is(t, "Spoil", d.Spoil("a", at, 0), api.ErrArg)
		is(t, "Spoil", d.Spoil("c", at, 1), api.ErrNone)
	}
	holds(t, d, "a", "\x00\x00\x00\x00\x00")
	holds(t, d, "b", "678")
	d.Crash(nil)
	holds(t, d, "a", "\x00\x00\x00")
	is(t, "Append", d.Append("c", ""), api.OK)
	is(t, "Spoil", d.Spoil("c", 0, 1), api.ErrArg)
}

// lent is a text whose bytes can be made others, as those of nobody's memory can't.
func lent(s string) (string, []byte) {
	b := []byte(s)
	return unsafe.String(unsafe.SliceData(b), len(b)), b
}

func blot(b []byte) {
	for i := range b {
		b[i] ^= 0x55
	}
}

// within: does a part's first byte lie in the whole's memory?
func within(whole, part string) bool {
	from := uintptr(unsafe.Pointer(unsafe.StringData(whole)))
	at := uintptr(unsafe.Pointer(unsafe.StringData(part)))
	return at >= from && at < from+uintptr(len(whole))
}

// P5.3: what is handed in isn't kept.
func TestKeepsNothing(t *testing.T) {
	d := disk.New(1000)
	first, second := strings.Repeat("first", 8), strings.Repeat("second", 8)
	name, nameBytes := lent(first)
	text, textBytes := lent("what is in it")
	is(t, "Append", d.Append(name, text), api.OK)
	blot(textBytes)
	blot(nameBytes)
	holds(t, d, first, "what is in it")
	name, nameBytes = lent(first)
	text, textBytes = lent(", and more")
	is(t, "Append", d.Append(name, text), api.OK)
	is(t, "Sync", d.Sync(name), api.OK)
	is(t, "Spoil", d.Spoil(name, 0, 0), api.OK)
	blot(textBytes)
	to, toBytes := lent(second)
	is(t, "Append", d.Append(second, "gone soon"), api.OK)
	is(t, "Rename", d.Rename(name, to), api.OK)
	blot(nameBytes)
	blot(toBytes)
	holds(t, d, second, "what is in it, and more")
	if !slices.Equal(d.List(), []string{second}) {
		t.Errorf("%q", d.List())
	}
	to, toBytes = lent(second) // to itself
	is(t, "Rename", d.Rename(to, to), api.OK)
	blot(toBytes)
	holds(t, d, second, "what is in it, and more")
}

// P5.3: answers are nobody's but the caller's.
func TestAnswersAreNew(t *testing.T) {
	d := disk.New(1000)
	name := strings.Repeat("name", 9)
	is(t, "Append", d.Append(name, "what is in it"), api.OK)
	is(t, "Append", d.Append("z", "another"), api.OK)
	l, again := d.List(), d.List()
	if within(name, l[0]) || within(l[0], again[0]) {
		t.Error("List shares the names")
	}
	l[0], l[1] = "x", "y"
	_ = append(l[:1], "w")
	if !slices.Equal(d.List(), []string{name, "z"}) || !slices.Equal(again, []string{name, "z"}) {
		t.Errorf("%q, %q", d.List(), again)
	}
	s, _ := d.Read(name)
	twin, _ := d.Read(name)
	if within(s, twin) {
		t.Error("Read answers one text twice")
	}
	is(t, "Spoil", d.Spoil(name, 0, 1), api.OK)
	is(t, "Append", d.Append(name, "!"), api.OK)
	d.Crash(nil)
	is(t, "Append", d.Append(name, "other bytes in it"), api.OK)
	if s != "what is in it" || twin != s {
		t.Errorf("%q, %q", s, twin)
	}
}

// P5.3: Crash leaves its numbers, and the room behind them, as they are, and doesn't keep them.
func TestCrashLeavesItsNumbers(t *testing.T) {
	d := lettered(t)
	keeps := []int{-7, 8, 9, 10}
	d.Crash(keeps[:2])
	if !slices.Equal(keeps, []int{-7, 8, 9, 10}) {
		t.Errorf("%v", keeps)
	}
	holds(t, d, "a", "12345") // -7 is brought to 2
	is(t, "Append", d.Append("a", "0123"), api.OK)
	keeps[0], keeps[1] = 1, 1
	d.Crash([]int{3})
	holds(t, d, "a", "12345012")
}

// P5.3: two disks have nothing in common.
func TestTwoDisks(t *testing.T) {
	a, b := disk.New(100), disk.New(100)
	is(t, "Append", a.Append("f", "of a"), api.OK)
	is(t, "Append", b.Append("f", "of b"), api.OK)
	is(t, "Append", b.Append("g", "of b"), api.OK)
	b.Arm(0)
	is(t, "Sync", b.Sync("f"), api.ErrDead)
	holds(t, a, "f", "of a")
	if a.Dead() || !slices.Equal(a.List(), []string{"f"}) || a.Used() != 4 || b.Used() != 8 {
		t.Error("they are one")
	}
	b.Crash(nil)
	holds(t, a, "f", "of a")
	holds(t, b, "f", "")
}

// P5.1, K4: the same calls, the same answers; many files, in no order of a map.
func TestManyFiles(t *testing.T) {
	var first []string
	for range 3 {
		d := disk.New(1 << 20)
		r := dice(5)
		for i := range 600 {
			is(t, "Append", d.Append(fmt.Sprint(r.roll(1<<20), "-", i), r.mixed(20)), api.OK)
		}
		if !slices.IsSorted(d.List()) || len(d.List()) != 600 {
			t.Fatal("List")
		}
		keeps := make([]int, 77)
		for i := range keeps {
			keeps[i] = r.roll(21)
		}
		d.Crash(keeps)
		var all []string
		for i, name := range d.List() {
			s, _ := d.Read(name)
			if len(s) != keeps[i%77] {
				t.Fatalf("file %d: %d bytes", i, len(s))
			}
			all = append(all, name, s)
		}
		if first == nil {
			first = all
		}
		if !slices.Equal(all, first) {
			t.Error("other answers")
		}
	}
}
