package seal_test

import (
	"bytes"
	"hash/crc32"
	"slices"
	"strings"
	"testing"
	"unsafe"

	"chirograph/api"
	"chirograph/seal"
)

// mixed is a text of n bytes of all kinds, another one for each seed.
func mixed(n int, seed uint32) string {
	b := make([]byte, n)
	x := seed*2654435761 + 99
	for i := range b {
		x = x*1664525 + 1013904223
		b[i] = byte(x >> 24)
	}
	return string(b)
}

// cyclic is the sum by the chapter's words, bit by bit.
func cyclic(s string) uint32 {
	sum := uint32(0xffffffff)
	for _, b := range []byte(s) {
		for bit := range 8 {
			out := sum&1 ^ uint32(b)>>bit&1
			sum >>= 1
			if out == 1 {
				sum ^= 0xedb88320
			}
		}
	}
	return sum ^ 0xffffffff
}

// framed is a frame by the chapter's words, of any length that three bytes can tell.
func framed(s string) string {
	head := string([]byte{0x5e, byte(len(s) / 0x10000), byte(len(s) / 256 % 256), byte(len(s) % 256)})
	sum := cyclic(head + s)
	return head + string([]byte{byte(sum >> 24), byte(sum >> 16), byte(sum >> 8), byte(sum)}) + s
}

// turned is s with the bytes from a place on xored with those of x.
func turned(s string, at int, x ...byte) string {
	b := []byte(s)
	for i, c := range x {
		b[at+i] ^= c
	}
	return string(b)
}

func wrap(t *testing.T, s string) string {
	t.Helper()
	f, e := seal.Wrap(s)
	if e != api.OK {
		t.Fatalf("Wrap of %d bytes: %d", len(s), e)
	}
	return f
}

func opens(t *testing.T, f, want string) {
	t.Helper()
	for range 2 {
		if s, n, e := seal.Open(f); s != want || n != 8+len(want) || e != api.OK {
			t.Fatalf("Open of %.40x of %d bytes: %.20q, %d, %d", f, len(f), s, n, e)
		}
	}
}

func refused(t *testing.T, f string, want api.Errno) {
	t.Helper()
	for range 2 {
		if s, n, e := seal.Open(f); s != "" || n != 0 || e != want {
			t.Fatalf("Open of %.40x of %d bytes: %.20q, %d, %d instead of %d", f, len(f), s, n, e, want)
		}
	}
}

// P4.1
func TestCheck(t *testing.T) {
	for s, want := range map[string]uint32{
		"":          0,
		"a":         0xe8b7be43,
		"123456789": 0xcbf43926,
		"The quick brown fox jumps over the lazy dog": 0x414fa339,
		strings.Repeat("\x00", 32):                    0x190a55ad,
		strings.Repeat("\xff", 32):                    0xff6cab0b,
	} {
		if got := seal.Check(s); got != want {
			t.Errorf("Check(%q) = %x", s, got)
		}
	}
	for a := range 256 {
		for b := range 256 {
			s := string([]byte{byte(a), byte(b)})
			if seal.Check(s) != cyclic(s) || seal.Check(s[:1]) != cyclic(s[:1]) {
				t.Fatalf("Check(%x)", s)
			}
		}
	}
	for _, n := range []int{3, 4, 5, 7, 8, 9, 15, 16, 17, 100, 1000, api.MaxText, api.MaxText + 1, 1<<20 + 3} {
		s := mixed(n, 3)
		for range 2 {
			if seal.Check(s) != cyclic(s) || seal.Check(s) != crc32.ChecksumIEEE([]byte(s)) {
				t.Errorf("Check of %d bytes", n)
			}
		}
	}
}

// P4.1
func TestWrap(t *testing.T) {
	if f := wrap(t, ""); f != "\x5e\x00\x00\x00\x0a\x96\xa7\x8d" {
		t.Errorf("%x", f)
	}
	if f := wrap(t, "ab"); f != "\x5e\x00\x00\x02\x5b\x98\x46\xd8ab" {
		t.Errorf("%x", f)
	}
	for _, n := range []int{0, 1, 2, 3, 4, 5, 8, 9, 100, 255, 256, 257, 4000, 65279, 65280, 65535, api.MaxText} {
		for _, s := range []string{mixed(n, 4), strings.Repeat("\x00", n), strings.Repeat("\x5e", n)} {
			if f := wrap(t, s); f != framed(s) || f != wrap(t, s) {
				t.Errorf("%d bytes: %.20x", n, f)
			}
		}
	}
	for _, n := range []int{api.MaxText + 1, api.MaxText + 2, 1 << 17, 1<<24 - 1, 1 << 24, 1<<24 + 1} {
		if f, e := seal.Wrap(strings.Repeat("x", n)); f != "" || e != api.ErrBig {
			t.Errorf("%d bytes: %.20x, %d", n, f, e)
		}
	}
	if seal.Head != 8 || seal.Mark != 0x5e {
		t.Error("Head, Mark")
	}
}

// P4.1: there and back, whatever stands behind.
func TestOpen(t *testing.T) {
	for _, n := range []int{0, 1, 2, 7, 8, 9, 255, 256, 65535, api.MaxText} {
		s := mixed(n, 5)
		f := wrap(t, s)
		opens(t, f, s)
		for _, behind := range []string{"\x00", "x", "\x5e", "\x5e\x00", f, strings.Repeat("\xff", 70000)} {
			opens(t, f+behind, s)
		}
	}
}

// P4.1: which error goes ahead of which.
func TestOpenErrors(t *testing.T) {
	for n := range 8 {
		for _, f := range []string{wrap(t, "ann"), "\x5f\xff\xff\xff\xff\xff\xff\xff", "\x00\x00\x00\x00\x00\x00\x00\x00", "\x5e\x01\x00\x01\x00\x00\x00\x00"} {
			refused(t, f[:n], api.ErrEnd)
		}
	}
	for first := range 256 {
		if first != 0x5e {
			for _, f := range []string{wrap(t, ""), wrap(t, "ann"), wrap(t, "ann")[:10], "\x5e\xff\xff\xff\x00\x00\x00\x00"} {
				refused(t, string([]byte{byte(first)})+f[1:], api.ErrText)
			}
		}
	}
	long := strings.Repeat("x", 0x10100)
	for _, size := range []string{"\x01\x00\x01", "\x01\x00\xff", "\x01\x01\x00", "\x02\x00\x00", "\x80\x00\x00", "\xff\xff\xff"} {
		refused(t, "\x5e"+size+"\x00\x00\x00\x00", api.ErrText)
		refused(t, "\x5e"+size+"\x00\x00\x00\x00"+long, api.ErrText)
	}
	refused(t, framed(long[:api.MaxText+1]), api.ErrText) // its sum is right
	refused(t, framed(long), api.ErrText)
	refused(t, "\x5e\x01\x00\x00\x00\x00\x00\x00", api.ErrEnd)
	refused(t, "\x5e\x01\x00\x00\x00\x00\x00\x00"+long[:api.MaxText-1], api.ErrEnd)
	refused(t, "\x5e\x01\x00\x00\x00\x00\x00\x00"+long[:api.MaxText], api.ErrSum)
	refused(t, "\x5e\x00\x00\x00\x00\x00\x00\x00", api.ErrSum)
}

// P4.1: what was cut off, and what was spoilt.
func TestOpenSpoilt(t *testing.T) {
	for _, s := range []string{"", "a", "ann", mixed(300, 6)} {
		f := wrap(t, s)
		for n := range f {
			refused(t, f[:n], api.ErrEnd)
			if n >= 8 {
				refused(t, turned(f, 4, 0xff)[:n], api.ErrEnd)
			}
		}
		for at := 4; at < len(f); at++ {
			for x := 1; x < 256; x++ {
				refused(t, turned(f, at, byte(x)), api.ErrSum)
			}
		}
		if len(s) > 0 { // said to be shorter than it is
			refused(t, turned(f, 3, byte(len(s))^byte(len(s)-1)), api.ErrSum)
		}
		// The sum goes the highest byte first, and is of the head too.
		backward := []byte(f)
		slices.Reverse(backward[4:8])
		refused(t, string(backward), api.ErrSum)
		sum := seal.Check(s)
		refused(t, f[:4]+string([]byte{byte(sum >> 24), byte(sum >> 16), byte(sum >> 8), byte(sum)})+s, api.ErrSum)
	}
}

// opened is what Open answers, by the chapter's words.
func opened(s string) (string, int, api.Errno) {
	if len(s) < 8 {
		return "", 0, api.ErrEnd
	}
	n := int(s[1])*0x10000 + int(s[2])*256 + int(s[3])
	switch {
	case s[0] != 0x5e, n > 65536:
		return "", 0, api.ErrText
	case len(s) < 8+n:
		return "", 0, api.ErrEnd
	case framed(s[8:8+n]) != s[:8+n]:
		return "", 0, api.ErrSum
	}
	return s[8 : 8+n], 8 + n, api.OK
}

// P4.1, P4.2: any bytes.
func TestAnyBytes(t *testing.T) {
	count := map[api.Errno]int{}
	for i := range uint32(30000) {
		x := []byte(mixed(40, i))
		s := mixed(int(x[0]%20), i) // bytes that are no frame
		if x[1] > 20 {              // or frames, of which bytes may be others
			s = framed(mixed(int(x[2]%9), i)) + framed(mixed(int(x[3]%9), i+1))
			for _, at := range x[4 : 4+x[5]%3] {
				s = turned(s, int(at)%len(s), x[6])
			}
			s = s[:len(s)-int(x[7]%4)]
		}
		text, n, e := seal.Open(s)
		wantText, wantN, want := opened(s)
		if text != wantText || n != wantN || e != want {
			t.Fatalf("Open(%x): %q, %d, %d", s, text, n, e)
		}
		count[e]++
		var texts []string
		at := 0
		for rest, n, e := opened(s); e == api.OK; rest, n, e = opened(s[at:]) {
			texts, at = append(texts, rest), at+n
		}
		if l, n := seal.All(s); !slices.Equal(l, texts) || n != at {
			t.Fatalf("All(%x): %q, %d", s, l, n)
		}
	}
	for _, e := range []api.Errno{api.OK, api.ErrEnd, api.ErrText, api.ErrSum} {
		if count[e] < 1000 {
			t.Errorf("error %d but %d times", e, count[e])
		}
	}
}

// P4.2: frames that are cut off anywhere are just the whole ones.
func TestAllCutOff(t *testing.T) {
	texts := []string{"", "a", "", "\x5e\x00\x00\x00", wrap(t, "in it"), mixed(300, 8), "", "z"}
	s := ""
	ends := []int{0}
	for _, x := range texts {
		s += wrap(t, x)
		ends = append(ends, len(s))
	}
	whole := 0
	for n := range len(s) + 1 {
		if whole < len(texts) && n == ends[whole+1] {
			whole++
		}
		if l, at := seal.All(s[:n]); !slices.Equal(l, texts[:whole]) || at != ends[whole] {
			t.Fatalf("%d bytes: %q, %d", n, l, at)
		}
	}
	if whole != len(texts) {
		t.Errorf("but %d were whole", whole)
	}
}

// P4.2: behind what is spoilt no frame is told, though it is right.
func TestAllSpoilt(t *testing.T) {
	a, b, c := wrap(t, "ann"), wrap(t, "bob"), wrap(t, "carl")
	for at := range b {
		if l, n := seal.All(a + turned(b, at, 0x81) + c); !slices.Equal(l, []string{"ann"}) || n != len(a) {
			t.Errorf("byte %d: %q, %d", at, l, n)
		}
	}
	for _, between := range []string{"\x00", "\x5e", "x", strings.Repeat("\x00", 8), b[:len(b)-1], framed(strings.Repeat("x", api.MaxText+1))} {
		if l, n := seal.All(a + between + c); !slices.Equal(l, []string{"ann"}) || n != len(a) {
			t.Errorf("%.20x between: %q, %d", between, l, n)
		}
		if l, n := seal.All(between + c); len(l) != 0 || n != 0 {
			t.Errorf("%.20x ahead: %q, %d", between, l, n)
		}
	}
	if l, n := seal.All(""); len(l) != 0 || n != 0 {
		t.Errorf("nothing: %q, %d", l, n)
	}
	if l, n := seal.All(wrap(t, "") + wrap(t, "") + "x"); !slices.Equal(l, []string{"", ""}) || n != 16 {
		t.Errorf("two empty ones: %q, %d", l, n)
	}
}

// P4.2: many frames, and long ones.
func TestAllOfMany(t *testing.T) {
	var texts []string
	var s strings.Builder
	for i := range 3000 {
		texts = append(texts, mixed(i%50, uint32(i)))
		s.WriteString(wrap(t, texts[i]))
	}
	for i := range 3 {
		texts = append(texts, mixed(api.MaxText, uint32(i)))
		s.WriteString(wrap(t, texts[3000+i]))
	}
	for range 2 {
		if l, n := seal.All(s.String()); !slices.Equal(l, texts) || n != s.Len() {
			t.Errorf("%d texts, %d", len(l), n)
		}
	}
}

// differing calls f with what up to four bytes may be xored with: each one alone, and mixed ones.
func differing(most int, f func(x []byte)) {
	for n := 1; n <= most; n++ {
		for i := range 256 {
			x := []byte(mixed(n, uint32(i)))
			switch {
			case n == 1:
				x[0] = byte(i)
			case i%3 == 0: // few bits
				x = make([]byte, n)
				x[0], x[n-1] = 1<<(i%8), 0x80>>(i/8%8)
			}
			if len(bytes.Trim(x, "\x00")) > 0 {
				f(x)
			}
		}
	}
}

// P4.3: of a frame's bytes some that stand one behind the other are others: all among its sum, or all among the rest.
func TestFewOtherBytes(t *testing.T) {
	for _, s := range []string{"", "a", "ann@x", strings.Repeat("\x00", 20), mixed(60, 9)} {
		f := wrap(t, s)
		rest := f[:4] + f[8:]
		differing(4, func(x []byte) {
			for at := 4; at+len(x) <= 8; at++ {
				refused(t, turned(f, at, x...), api.ErrSum)
			}
			for at := 0; at+len(x) <= len(rest); at++ {
				other := turned(rest, at, x...)
				other = other[:4] + f[4:8] + other[4:]
				if text, n, e := seal.Open(other); e == api.OK && n == len(f) {
					t.Fatalf("%x for %x: %q", other, f, text)
				}
			}
		})
	}
}

// P4.3: the same of a long frame.
func TestFewOtherBytesOfALongFrame(t *testing.T) {
	f := wrap(t, mixed(api.MaxText, 10))
	for at := 8; at+4 <= len(f); at += 2039 {
		refused(t, turned(f, at, 1, 0, 0, 0x80), api.ErrSum)
		refused(t, turned(f, at, 0x83, 0xb8, 0xed, 0x01), api.ErrSum)
	}
	refused(t, turned(f, len(f)-4, 0, 0, 0, 1), api.ErrSum)
}

// P4.1, P4.2, K3: an answer shares no memory with what was handed in, nor with another one.
func TestMemory(t *testing.T) {
	s := mixed(50, 11)
	f := wrap(t, s)
	if within(f, s) {
		t.Error("Wrap keeps the text")
	}
	if text, _, _ := seal.Open(f); within(f, text) {
		t.Error("Open keeps the frame")
	}
	both := f + f
	l, _ := seal.All(both)
	if within(both, l[0]) || within(both, l[1]) || within(l[0], l[1]) {
		t.Error("All keeps the frames")
	}
}

// within: does a part's first byte lie in the whole's memory?
func within(whole, part string) bool {
	from := uintptr(unsafe.Pointer(unsafe.StringData(whole)))
	at := uintptr(unsafe.Pointer(unsafe.StringData(part)))
	return at >= from && at < from+uintptr(len(whole))
}
