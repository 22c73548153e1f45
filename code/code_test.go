package code_test

import (
	"math"
	"strings"
	"testing"
	"unsafe"

	"chirograph/api"
	"chirograph/code"
)

type numeral struct {
	n int
	s string
}

// numerals are numbers at each edge of size, spelled by hand.
func numerals() []numeral {
	return []numeral{
		{0, "\x00"},
		{1, "\x01\x01"},
		{9, "\x01\x09"},
		{0x7f, "\x01\x7f"},
		{0x80, "\x01\x80"},
		{0xff, "\x01\xff"},
		{0x100, "\x02\x01\x00"},
		{300, "\x02\x01\x2c"},
		{0xffff, "\x02\xff\xff"},
		{0x10000, "\x03\x01\x00\x00"},
		{0xffffff, "\x03\xff\xff\xff"},
		{0x1000000, "\x04\x01\x00\x00\x00"},
		{0x40000000, "\x04\x40\x00\x00\x00"},
		{0xffffffff, "\x04\xff\xff\xff\xff"},
		{0x100000000, "\x05\x01\x00\x00\x00\x00"},
		{0xffffffffff, "\x05\xff\xff\xff\xff\xff"},
		{0x10000000000, "\x06\x01\x00\x00\x00\x00\x00"},
		{0xffffffffffff, "\x06\xff\xff\xff\xff\xff\xff"},
		{0x1000000000000, "\x07\x01\x00\x00\x00\x00\x00\x00"},
		{0xffffffffffffff, "\x07\xff\xff\xff\xff\xff\xff\xff"},
		{0x100000000000000, "\x08\x01\x00\x00\x00\x00\x00\x00\x00"},
		{0x0123456789abcdef, "\x08\x01\x23\x45\x67\x89\xab\xcd\xef"},
		{math.MaxInt, "\x08\x7f\xff\xff\xff\xff\xff\xff\xff"},
	}
}

func written(t *testing.T, w *code.Writer, want string) {
	t.Helper()
	for range 2 { // asked twice, it says the same
		if s, e := w.Done(); s != want || e != api.OK {
			t.Fatalf("%.80x of %d bytes, %d", s, len(s), e)
		}
	}
}

func unwritten(t *testing.T, w *code.Writer, want api.Errno) {
	t.Helper()
	for range 2 {
		if s, e := w.Done(); s != "" || e != want {
			t.Fatalf("%.80x, %d instead of %d", s, e, want)
		}
	}
}

// P2.1
func TestWriteNumber(t *testing.T) {
	for _, x := range numerals() {
		var w code.Writer
		w.Number(x.n)
		written(t, &w, x.s)
	}
}

// P2.1
func TestWriteText(t *testing.T) {
	for n, head := range map[int]string{0: "\x00", 1: "\x01\x01", 2: "\x01\x02", 255: "\x01\xff", 256: "\x02\x01\x00", 65532: "\x02\xff\xfc"} {
		var w code.Writer
		s := strings.Repeat("\x00\xff\n\xc3", n/4+1)[:n]
		w.Text(s)
		written(t, &w, head+s)
	}
}

// P2.1
func TestWriteLabelAndFlag(t *testing.T) {
	var w code.Writer
	written(t, &w, "")
	l := api.Label{1, 2, 30: 0xfe, 31: 0xff}
	w.Label(l)
	written(t, &w, "\x01\x02"+strings.Repeat("\x00", 28)+"\xfe\xff")
	w.Flag(true)
	w.Flag(false)
	written(t, &w, string(l[:])+"\x01\x00")
	var all code.Writer
	all.Number(0)
	all.Number(300)
	all.Text("ab")
	all.Flag(true)
	all.Number(1)
	written(t, &all, "\x00\x02\x01\x2c\x01\x02ab\x01\x01\x01")
}

// P2.1: the first error stays, and what comes behind it doesn't matter.
func TestWriteErrors(t *testing.T) {
	long := strings.Repeat("x", api.MaxText+1)
	for _, n := range []int{-1, -300, math.MinInt} {
		var w code.Writer
		w.Number(5)
		w.Number(n)
		unwritten(t, &w, api.ErrArg)
		w.Number(5)
		w.Text(long)
		unwritten(t, &w, api.ErrArg)
	}
	var w code.Writer
	w.Text(long)
	unwritten(t, &w, api.ErrBig)
	w.Number(-1)
	w.Label(api.Label{})
	w.Flag(true)
	unwritten(t, &w, api.ErrBig)
}

// P2.1: all bytes may be MaxText and no more.
func TestWriteLimit(t *testing.T) {
	var w code.Writer
	s := strings.Repeat("x", api.MaxText-3)
	w.Text(s)
	written(t, &w, "\x02\xff\xfd"+s)
	w.Flag(false)
	unwritten(t, &w, api.ErrBig)
	w.Flag(false)
	unwritten(t, &w, api.ErrBig)

	var small code.Writer
	for range api.MaxText {
		small.Flag(true)
	}
	written(t, &small, strings.Repeat("\x01", api.MaxText))
	small.Number(0)
	unwritten(t, &small, api.ErrBig)
}

// P2.1: that there are too many bytes is said by Done alone; an error of a call goes ahead of it.
func TestWriteLimitBehindErrors(t *testing.T) {
	var w code.Writer
	w.Text(strings.Repeat("x", api.MaxText))
	unwritten(t, &w, api.ErrBig)
	w.Text(strings.Repeat("x", api.MaxText))
	unwritten(t, &w, api.ErrBig)
	w.Number(-1)
	unwritten(t, &w, api.ErrArg)
	w.Text(strings.Repeat("x", api.MaxText+1))
	unwritten(t, &w, api.ErrArg)
}

// P2.1: two writers have nothing in common.
func TestWritersApart(t *testing.T) {
	var a, b code.Writer
	for i := range 100 {
		a.Number(i % 10)
		b.Flag(true)
	}
	s, e := a.Done()
	a.Number(77)
	if e != api.OK || len(s) != 190 || s[:5] != "\x00\x01\x01\x01\x02" {
		t.Errorf("%x, %d", s, e)
	}
	written(t, &b, strings.Repeat("\x01", 100))
}

// state asks a reader how it stands.
func state(t *testing.T, r *code.Reader, done api.Errno, left int) {
	t.Helper()
	for range 2 {
		if r.Done() != done || r.Left() != left {
			t.Fatalf("Done %d, Left %d instead of %d, %d", r.Done(), r.Left(), done, left)
		}
	}
}

// stuck asks that nothing is read any more: all is zero, error and place stay.
func stuck(t *testing.T, r *code.Reader, err api.Errno, left int) {
	t.Helper()
	state(t, r, err, left)
	if n := r.Number(); n != 0 {
		t.Fatalf("Number %d behind an error", n)
	}
	if n := r.Below(math.MinInt) + r.Below(0) + r.Below(math.MaxInt); n != 0 {
		t.Fatalf("Below %d behind an error", n)
	}
	if r.Text() != "" || r.Label() != (api.Label{}) || r.Flag() {
		t.Fatal("something was read behind an error")
	}
	state(t, r, err, left)
}

// P2.2
func TestReadNumber(t *testing.T) {
	for _, x := range numerals() {
		r := code.Open(x.s + "\x01")
		if n := r.Number(); n != x.n {
			t.Fatalf("%x: %d instead of %d", x.s, n, x.n)
		}
		state(t, r, api.ErrForm, 1)
		if !r.Flag() { // that bytes are left is no error of the reader's
			t.Fatal("Flag")
		}
		state(t, r, api.OK, 0)
	}
}

type wrong struct {
	s    string
	err  api.Errno
	left int
}

func wrongNumbers() []wrong {
	return []wrong{
		{"", api.ErrEnd, 0},
		{"\x09", api.ErrText, 0},
		{"\x09\x01\x02", api.ErrText, 2},
		{"\xff\x01", api.ErrText, 1},
		{"\x01", api.ErrEnd, 0},
		{"\x02\x01", api.ErrEnd, 1},
		{"\x02\x00", api.ErrEnd, 1}, // all bytes are wanted ahead of a look at the first one
		{"\x08\xff\xff\xff\xff\xff\xff\xff", api.ErrEnd, 7},
		{"\x01\x00", api.ErrText, 0},
		{"\x02\x00\x2c", api.ErrText, 0},
		{"\x02\x00\x2c\x05", api.ErrText, 1},
		{"\x08\x00\xff\xff\xff\xff\xff\xff\xff", api.ErrText, 0},
		{"\x08\x80\x00\x00\x00\x00\x00\x00\x00", api.ErrText, 0},
		{"\x08\xff\xff\xff\xff\xff\xff\xff\xff\x01", api.ErrText, 1},
	}
}

// P2.2
func TestReadWrongNumber(t *testing.T) {
	for _, x := range wrongNumbers() {
		r := code.Open(x.s)
		if n := r.Number(); n != 0 {
			t.Fatalf("Number of %x: %d", x.s, n)
		}
		stuck(t, r, x.err, x.left)
		r = code.Open(x.s)
		if n := r.Below(0); n != 0 {
			t.Fatalf("Below of %x: %d", x.s, n)
		}
		stuck(t, r, x.err, x.left)
		r = code.Open(x.s)
		if s := r.Text(); s != "" {
			t.Fatalf("Text of %x: %x", x.s, s)
		}
		stuck(t, r, x.err, x.left)
	}
}

// P2.2
func TestReadBelow(t *testing.T) {
	for _, x := range numerals() {
		for _, most := range []int{math.MinInt, -1, 0, 1, x.n - 1, x.n} {
			if most > x.n {
				continue
			}
			r := code.Open(x.s + "\x00")
			if n := r.Below(most); n != 0 {
				t.Fatalf("Below(%d) of %x: %d", most, x.s, n)
			}
			stuck(t, r, api.ErrBig, 1)
		}
		if x.n == math.MaxInt {
			continue
		}
		for _, most := range []int{x.n + 1, math.MaxInt} {
			r := code.Open(x.s)
			if n := r.Below(most); n != x.n {
				t.Fatalf("Below(%d) of %x: %d", most, x.s, n)
			}
			state(t, r, api.OK, 0)
		}
	}
}

// P2.2
func TestReadText(t *testing.T) {
	r := code.Open("\x00\x01\x02ab\x01\x01")
	if a, b := r.Text(), r.Text(); a != "" || b != "ab" {
		t.Fatalf("%q, %q", a, b)
	}
	if s := r.Text(); s != "" {
		t.Fatalf("a text of an end: %q", s)
	}
	stuck(t, r, api.ErrEnd, 0)
	long := strings.Repeat("\xff", api.MaxText-3)
	r = code.Open("\x02\xff\xfd" + long)
	if s := r.Text(); s != long {
		t.Fatalf("a text of %d bytes", len(s))
	}
	state(t, r, api.OK, 0)
	for _, x := range []wrong{
		{"\x01\x03ab", api.ErrEnd, 2},
		{"\x03\x01\x00\x00ab", api.ErrEnd, 2}, // 65536 bytes: that isn't above the limit, but wanting
		{"\x03\x01\x00\x01ab", api.ErrBig, 2},
		{"\x03\x01\x00\x01", api.ErrBig, 0},
		{"\x08\x7f\xff\xff\xff\xff\xff\xff\xffab", api.ErrBig, 2},
	} {
		r := code.Open(x.s)
		if s := r.Text(); s != "" {
			t.Fatalf("%x: %q", x.s, s)
		}
		stuck(t, r, x.err, x.left)
	}
}

// place is where a text's bytes lie.
func place(s string) uintptr {
	return uintptr(unsafe.Pointer(unsafe.StringData(s)))
}

// P2.2, K3: a text that was read lies in memory of its own.
func TestReadTextApart(t *testing.T) {
	s := strings.Repeat("\x01\x01z", 2)
	r := code.Open(s)
	for range 2 {
		x := r.Text()
		if x != "z" || place(x) >= place(s) && place(x) < place(s)+uintptr(len(s)) {
			t.Fatalf("%q shares memory with what was opened", x)
		}
	}
}

// P2.2
func TestReadLabelAndFlag(t *testing.T) {
	var l api.Label
	for i := range l {
		l[i] = byte(i + 1)
	}
	r := code.Open(string(l[:]) + "\x00\x01")
	if r.Label() != l || r.Flag() || !r.Flag() {
		t.Fatal("Label, Flag")
	}
	state(t, r, api.OK, 0)
	for n := range len(l) {
		r := code.Open(string(l[:n]))
		if x := r.Label(); x != (api.Label{}) {
			t.Fatalf("a label of %d bytes: %x", n, x)
		}
		stuck(t, r, api.ErrEnd, n)
	}
	r = code.Open("")
	if r.Flag() {
		t.Fatal("Flag of nothing")
	}
	stuck(t, r, api.ErrEnd, 0)
	for c := 2; c < 256; c++ {
		r := code.Open(string([]byte{byte(c), 1}))
		if r.Flag() {
			t.Fatalf("Flag of %x", c)
		}
		stuck(t, r, api.ErrText, 1)
	}
}

// P2.2
func TestOpen(t *testing.T) {
	r := code.Open(strings.Repeat("\x01", api.MaxText))
	if !r.Flag() || r.Number() != 1 {
		t.Error("MaxText bytes")
	}
	state(t, r, api.ErrForm, api.MaxText-3)
	stuck(t, code.Open(strings.Repeat("\x01", api.MaxText+1)), api.ErrBig, api.MaxText+1)
	state(t, code.Open(""), api.OK, 0)
	var zero code.Reader
	state(t, &zero, api.OK, 0)
	if zero.Number() != 0 {
		t.Error("the zero reader")
	}
	stuck(t, &zero, api.ErrEnd, 0)
}

// wanted is what a number is read as by the chapter's words: number, error, how many bytes are taken.
func wanted(s string) (int, api.Errno, int) {
	if len(s) == 0 {
		return 0, api.ErrEnd, 0
	}
	size := int(s[0])
	switch {
	case size > 8:
		return 0, api.ErrText, 1
	case len(s)-1 < size:
		return 0, api.ErrEnd, 1
	case size > 0 && s[1] == 0, size == 8 && s[1] >= 0x80:
		return 0, api.ErrText, 1 + size
	}
	n := 0
	for _, b := range []byte(s[1 : 1+size]) {
		n = 256*n + int(b)
	}
	return n, api.OK, 1 + size
}

// strung calls f with all strings of up to n of some bytes.
func strung(n int, f func(s string)) {
	all := []string{""}
	for len(all) > 0 {
		s := all[len(all)-1]
		all = all[:len(all)-1]
		f(s)
		if len(s) < n {
			for _, c := range []byte{0, 1, 2, 3, 8, 9, 0x7f, 0x80, 0xff} {
				all = append(all, s+string([]byte{c}))
			}
		}
	}
}

// P2.2: numbers of any bytes.
func TestReadNumberOfAnyBytes(t *testing.T) {
	check := func(s string) {
		r := code.Open(s)
		n := r.Number()
		want, e, took := wanted(s)
		done := e
		if e == api.OK && took < len(s) {
			done = api.ErrForm
		}
		if n != want || r.Done() != done || r.Left() != len(s)-took {
			t.Fatalf("%x: %d, %d, %d left", s, n, r.Done(), r.Left())
		}
	}
	strung(5, check)
	for a := range 256 {
		for b := range 256 {
			check(string([]byte{byte(a), byte(b)}))
			check(string([]byte{byte(a), byte(b), 7, 7, 7, 7, 7, 7, 7, 7, 7}))
		}
	}
}

// things reads things of the kinds that plan tells, one after the other, and writes each again.
func things(s, plan string) (string, api.Errno, api.Errno) {
	r := code.Open(s)
	var w code.Writer
	for _, c := range plan {
		switch c {
		case 'n':
			w.Number(r.Number())
		case 't':
			w.Text(r.Text())
		case 'f':
			w.Flag(r.Flag())
		case 'l':
			w.Label(r.Label())
		}
	}
	again, e := w.Done()
	return again, r.Done(), e
}

// P2.3: of any bytes that are read to the end, what was read is written as these bytes and no others.
func TestOneSpelling(t *testing.T) {
	count := 0
	strung(5, func(s string) {
		for _, plan := range []string{"n", "t", "f", "nn", "tn", "nt", "tt", "fn", "tf", "nfn", "fff"} {
			again, read, e := things(s, plan)
			if read != api.OK {
				continue
			}
			count++
			if e != api.OK || again != s {
				t.Fatalf("%x as %s: %x, %d", s, plan, again, e)
			}
		}
	})
	if count < 1000 {
		t.Errorf("but %d were read", count)
	}
}

// P2.3: what is written is read again.
func TestThereAndBack(t *testing.T) {
	l := api.Label{3, 31: 9}
	long := strings.Repeat("\x00z", 15000)
	for _, x := range numerals() {
		for _, s := range []string{"", "\x00", "ann", long} {
			var w code.Writer
			w.Text(s)
			w.Number(x.n)
			w.Flag(x.n%2 == 0)
			w.Label(l)
			w.Text(s)
			b, e := w.Done()
			r := code.Open(b)
			if r.Text() != s || r.Number() != x.n || r.Flag() != (x.n%2 == 0) || r.Label() != l || r.Text() != s || e != api.OK || r.Done() != api.OK {
				t.Fatalf("%d, %.20q: %d, %d", x.n, s, e, r.Done())
			}
			again, read, e := things(b, "tnflt")
			if again != b || read != api.OK || e != api.OK {
				t.Fatalf("%d, %.20q again: %d, %d", x.n, s, read, e)
			}
		}
	}
}
