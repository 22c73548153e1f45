package name_test

import (
	"math"
	"slices"
	"strings"
	"testing"
	"unicode/utf8"
	"unsafe"

	"chirograph/api"
	"chirograph/name"
)

// letters are the ends, both in it, of each range of letters that the chapter names; greats those of the great ones.
func letters() []rune {
	return []rune{'a', 'z', 'A', 'Z', 0xc0, 0xd6, 0xd8, 0xf6, 0xf8, 0x17f, 0x391, 0x3a1, 0x3a3, 0x3a9, 0x3b1, 0x3c9, 0x410, 0x44f}
}

func greats() []rune {
	return []rune{'A', 'Z', 0xc0, 0xd6, 0xd8, 0xde, 0x391, 0x3a1, 0x3a3, 0x3a9, 0x410, 0x42f}
}

func ranged(c rune, ends []rune) bool {
	for i := 0; i < len(ends); i += 2 {
		if c >= ends[i] && c <= ends[i+1] {
			return true
		}
	}
	return false
}

// kind is a rune's kind by the chapter's words.
func kind(c rune) int {
	switch {
	case ranged(c, letters()):
		return 1
	case c >= '0' && c <= '9':
		return 2
	case c == '.' || c == '-' || c == '_' || c == '@' || c == '+':
		return 3
	}
	return 0
}

// glyph is a rune of a text, and the bytes that it has there.
type glyph struct {
	c     rune
	bytes string
}

// glyphs are a text's runes, taken one by one by the forms that UTF-8 has.
func glyphs(s string) []glyph {
	var l []glyph
	for len(s) > 0 {
		c, n := formed(s)
		l = append(l, glyph{c, s[:n]})
		s = s[n:]
	}
	return l
}

// formed: the rune that begins a text, and how many bytes it has.
func formed(s string) (rune, int) {
	lead := s[0]
	n, c, least := 0, rune(0), rune(0)
	switch {
	case lead < 0x80:
		return rune(lead), 1
	case lead>>5 == 6:
		n, c, least = 2, rune(lead&0x1f), 0x80
	case lead>>4 == 14:
		n, c, least = 3, rune(lead&0x0f), 0x800
	case lead>>3 == 30:
		n, c, least = 4, rune(lead&0x07), 0x10000
	default:
		return 0xfffd, 1
	}
	for i := 1; i < n; i++ {
		if i >= len(s) || s[i]>>6 != 2 {
			return 0xfffd, 1
		}
		c = c<<6 | rune(s[i]&0x3f)
	}
	if c < least || c > 0x10ffff || c >= 0xd800 && c <= 0xdfff {
		return 0xfffd, 1
	}
	return c, n
}

// checked is what Check answers by the chapter's words.
func checked(s string) (int, api.Errno) {
	if s == "" {
		return 0, api.ErrEnd
	}
	at := 0
	l := glyphs(s)
	for i, g := range l {
		switch {
		case g.c == 0xfffd:
			return at, api.ErrText
		case i == 40:
			return at, api.ErrBig
		case kind(g.c) == 0,
			kind(g.c) == 3 && (i == 0 || kind(l[i-1].c) == 3),
			ranged(g.c, greats()):
			return at, api.ErrForm
		}
		at += len(g.bytes)
	}
	if kind(l[len(l)-1].c) == 3 {
		return len(s), api.ErrForm
	}
	return 0, api.OK
}

// folded, parted: what Fold and Parts answer by the chapter's words.
func folded(s string) string {
	small := ""
	for _, g := range glyphs(s) {
		if ranged(g.c, greats()) {
			g.c += 32
		}
		small += string(g.c)
	}
	return small
}

func parted(s string) []string {
	l := []string{""}
	for _, g := range glyphs(s) {
		if kind(g.c) == 3 {
			l = append(l, "")
		} else {
			l[len(l)-1] += g.bytes
		}
	}
	return l
}

// refuses: does Check answer this place and this error, each time?
func refuses(t *testing.T, s string, at int, want api.Errno) {
	t.Helper()
	for range 2 {
		if n, e := name.Check(s); n != at || e != want {
			t.Fatalf("Check(%.90q): %d, %d instead of %d, %d", s, n, e, at, want)
		}
	}
}

func accepts(t *testing.T, s string) {
	t.Helper()
	refuses(t, s, 0, api.OK)
}

// P6.1: all runes there are, and numbers that are none.
func TestKind(t *testing.T) {
	for c := rune(-1000); c <= 0x110000+1000; c++ {
		if name.Kind(c) != kind(c) {
			t.Fatalf("Kind(%x): %d", c, name.Kind(c))
		}
	}
	for _, c := range []rune{math.MinInt32, math.MinInt32 + 'a', math.MaxInt32, math.MaxInt32 - 'a', 1<<16 + 'a', 1<<24 + 'a', 1<<30 + '.', -'a', -'.', -'0', -1} {
		if name.Kind(c) != 0 {
			t.Errorf("Kind(%x): %d", c, name.Kind(c))
		}
	}
	if name.Other != 0 || name.Letter != 1 || name.Digit != 2 || name.Joint != 3 {
		t.Error("the kinds")
	}
}

// P6.1: the kinds of some runes, written out.
func TestKindsOfSome(t *testing.T) {
	for want, s := range map[int]string{
		name.Letter: "amzAMZÀÖØöøÿĀſΑΡΣΩαςωАЯая",
		name.Digit:  "0123456789",
		name.Joint:  ".-_@+",
		name.Other:  " \x00\t\n!\"#$%&'()*,/:;<=>?[\\]^`{|}~\x7f\u0080¿×÷ƀΆΐ΢ΪΰϊЏѐё٣०ａ０‐﹘�𐐀😀",
	} {
		for _, c := range s {
			if name.Kind(c) != want {
				t.Errorf("Kind(%q): %d", c, name.Kind(c))
			}
		}
	}
}

// P6.1: what is an identity.
func TestIdentities(t *testing.T) {
	for _, s := range []string{
		"ann.b@x1", "a", "0", "z", "9", "é", "ſ", "ω", "ς", "я", "a.b", "a-b_c@d+e", "0.0", "7up", "ann", "жз.éß@x",
		"ā", "Ā", "ŸŽ", "a.b.c.d.e.f.g.h.i.j.k.l.m.n.o.p.q.r.s.tu", // capitals, but not among the great letters
		strings.Repeat("a", 40), strings.Repeat("é", 40), strings.Repeat("ω", 40), "1" + strings.Repeat(".я", 19) + "2",
	} {
		accepts(t, s)
	}
}

// P6.1: what isn't, and where.
func TestFaults(t *testing.T) {
	for _, c := range []struct {
		s  string
		at int
		e  api.Errno
	}{
		{"", 0, api.ErrEnd},
		{"Ann", 0, api.ErrForm}, {"anN", 2, api.ErrForm}, {"éÉ", 2, api.ErrForm}, {"ωΩ", 2, api.ErrForm}, {"яЯ", 2, api.ErrForm}, {"Þ", 0, api.ErrForm},
		{"a..b", 2, api.ErrForm}, {"a.-b", 2, api.ErrForm}, {"é@_b", 3, api.ErrForm}, {"a...", 2, api.ErrForm}, {"a.b+-", 4, api.ErrForm},
		{".", 0, api.ErrForm}, {".a", 0, api.ErrForm}, {"+a.", 0, api.ErrForm}, {"..", 0, api.ErrForm},
		{"a.", 2, api.ErrForm}, {"a.b@", 4, api.ErrForm}, {"é_", 3, api.ErrForm}, {"0-", 2, api.ErrForm},
		{" ", 0, api.ErrForm}, {"a b", 1, api.ErrForm}, {"a\x00", 1, api.ErrForm}, {"é\n", 2, api.ErrForm}, {"a×b", 1, api.ErrForm}, {"a😀", 1, api.ErrForm}, {"a. ", 2, api.ErrForm},
		{"a\xff", 1, api.ErrText}, {"\xff", 0, api.ErrText}, {"a\uFFFD", 1, api.ErrText}, {"a\uFFFDb", 1, api.ErrText}, {"é\xc3", 2, api.ErrText}, {"é\xa9", 2, api.ErrText},
		{"\xc0\xae", 0, api.ErrText}, {"\xe0\x81\xa1", 0, api.ErrText}, {"a\xed\xa0\x80", 1, api.ErrText}, {"a\xf4\x90\x80\x80", 1, api.ErrText}, {"ab\xe2\x82", 2, api.ErrText}, {"a.\xff", 2, api.ErrText},
		{"A\xff", 0, api.ErrForm}, {"\xffA", 0, api.ErrText}, {"a .\xff", 1, api.ErrForm}, // the first one
	} {
		refuses(t, c.s, c.at, c.e)
	}
}

// P6.1: runes are counted, not bytes; what stands ahead goes ahead.
func TestLength(t *testing.T) {
	for _, c := range []string{"a", "7", "é", "ω", "я"} {
		for n := 1; n < 60; n++ {
			s := strings.Repeat(c, n)
			if n <= 40 {
				accepts(t, s)
			} else {
				refuses(t, s, 40*len(c), api.ErrBig)
			}
		}
		full := strings.Repeat(c, 40)
		for _, more := range []string{"a", "é", "A", " ", ".", "..", "a\xff", "\x00", "😀"} {
			refuses(t, full+more, len(full), api.ErrBig)
		}
		for _, more := range []string{"\xff", "\uFFFD", "\xff\xff", "\xc3", "\xed\xa0\x80"} {
			refuses(t, full+more, len(full), api.ErrText)
		}
		short := strings.Repeat(c, 39)
		refuses(t, short+".", len(short)+1, api.ErrForm)
		refuses(t, short+".a", len(short)+1, api.ErrBig)
		refuses(t, short+"A", len(short), api.ErrForm)
		refuses(t, short+"\xffa", len(short), api.ErrText)
	}
	refuses(t, strings.Repeat("a", 1<<22), 40, api.ErrBig)
	refuses(t, " "+strings.Repeat("a", 1<<22), 0, api.ErrForm)
}

// P6.1: each rune, alone, behind a letter, and between joints.
func TestCheckOfEachRune(t *testing.T) {
	for c := rune(0); c <= utf8.MaxRune; c++ {
		if c > 0x2100 && c < 0xf000 || c > 0x10100 && c < 0x10ff00 {
			continue
		}
		for _, s := range []string{string(c), "é" + string(c), "a." + string(c) + ".b"} {
			at, e := checked(s)
			refuses(t, s, at, e)
		}
	}
}

// pieces are what texts are made of: runes of all kinds, and bytes that are no rune in form.
func pieces() []string {
	l := []string{".", "-", "_", "@", "+", "0", "9", " ", "\x00", "/", ":", "😀", "\uFFFD", "\xff", "\x80", "\xc3", "\xc0\xae", "\xe2\x82", "\xed\xa0\x80", "\xf0\x9f", "\xf4\x90\x80\x80", "\xf8"}
	for _, c := range slices.Concat(letters(), greats()) {
		l = append(l, string(c), string(c-1), string(c+1), string(c+32), string(c+33))
	}
	return l
}

// texts are of pieces of all kinds, and of such as are in identities.
func texts(n int) []string {
	all := pieces()
	right := []string{"a", "z", "é", "ſ", "ω", "я", "0", "9", "a.b", "ж@9"}
	x := uint32(3)
	roll := func(n int) int {
		x = x*1664525 + 1013904223
		return int(x>>8) % n
	}
	var l []string
	for i := range n {
		var s strings.Builder
		for range roll([]int{4, 12, 60}[i%3]) {
			if roll(20) <= i%20 {
				s.WriteString(right[roll(len(right))])
			} else {
				s.WriteString(all[roll(len(all))])
			}
		}
		l = append(l, s.String())
	}
	return l
}

// P6.1: any texts, held against the chapter's words.
func TestCheckOfAnyText(t *testing.T) {
	count := map[api.Errno]int{}
	for _, s := range texts(40000) {
		at, e := checked(s)
		refuses(t, s, at, e)
		count[e]++
	}
	for _, e := range []api.Errno{api.OK, api.ErrEnd, api.ErrText, api.ErrForm, api.ErrBig} {
		if count[e] < 100 {
			t.Errorf("error %d but %d times", e, count[e])
		}
	}
}

// P6.1, P6.2: all texts of up to three bytes out of those that matter to UTF-8.
func TestBytes(t *testing.T) {
	l := []byte{'.', '0', 'A', 'a', 0x7f, 0x80, 0x8f, 0x90, 0x9f, 0xa0, 0xbf, 0xc0, 0xc1, 0xc2, 0xc3, 0xdf, 0xe0, 0xe1, 0xec, 0xed, 0xee, 0xef, 0xf0, 0xf1, 0xf3, 0xf4, 0xf5, 0xf8, 0xff}
	for _, a := range l {
		for _, b := range l {
			for _, c := range l {
				for _, s := range []string{string([]byte{a, b, c}), string([]byte{a, b, c, 0xbd}), string([]byte{a, b}), string([]byte{a})} {
					at, e := checked(s)
					refuses(t, s, at, e)
					answers(t, s)
				}
			}
		}
	}
}

// answers: are Fold, Runes and Parts of a text what the chapter's words say?
func answers(t *testing.T, s string) {
	t.Helper()
	if got := name.Fold(s); got != folded(s) {
		t.Fatalf("Fold(%q): %q instead of %q", s, got, folded(s))
	}
	if got := name.Runes(s); got != len(glyphs(s)) {
		t.Fatalf("Runes(%q): %d", s, got)
	}
	if got := name.Parts(s); !slices.Equal(got, parted(s)) {
		t.Fatalf("Parts(%q): %q instead of %q", s, got, parted(s))
	}
}

// P6.2: any texts, held against the chapter's words.
func TestAnyText(t *testing.T) {
	for _, s := range texts(20000) {
		answers(t, s)
	}
}

// P6.2: each rune there is.
func TestFoldOfEachRune(t *testing.T) {
	for c := rune(0); c <= utf8.MaxRune; c++ {
		want := string(c)
		if ranged(c, greats()) {
			want = string(c + 32)
		}
		if got := name.Fold(string(c)); got != want {
			t.Fatalf("Fold of %x: %q", c, got)
		}
		if name.Runes(string(c)) != 1 {
			t.Fatalf("Runes of %x", c)
		}
	}
}

// P6.2
func TestFold(t *testing.T) {
	for s, want := range map[string]string{
		"":                  "",
		"ÄB":                "äb",
		"AZ az 09 .-_@+":    "az az 09 .-_@+",
		"@[`{":              "@[`{",
		"ÀÖ×ØÞß÷ÿ":          "àö×øþß÷ÿ",
		"ĀŸŽſ":              "ĀŸŽſ",
		"ΑΡΣΩ\u03a2ς΢ΪΆ":    "αρσω\u03a2ς΢ΪΆ",
		"АЯЀЁѐё":            "аяЀЁѐё",
		"😀\x00":             "😀\x00",
		"\xff":              "\uFFFD",
		"A\xffB\xc3C":       "a\uFFFDb\uFFFDc",
		"\xed\xa0\x80\xe2A": "\uFFFD\uFFFD\uFFFD\uFFFDa",
		"\uFFFD":            "\uFFFD",
	} {
		for range 2 {
			if got := name.Fold(s); got != want {
				t.Errorf("Fold(%q): %q", s, got)
			}
		}
		if name.Fold(want) != want {
			t.Errorf("Fold(%q) again", want)
		}
	}
	long := strings.Repeat("\xffÄ", 100000)
	if name.Fold(long) != strings.Repeat("\uFFFDä", 100000) {
		t.Error("Fold of a long text")
	}
}

// P6.2
func TestRunes(t *testing.T) {
	for s, want := range map[string]int{"": 0, "a": 1, "é": 1, "😀": 1, "aé\xff\xff": 4, "\xed\xa0\x80": 3, "\xe2\x82": 2, "\xf0\x9f\x98": 3, "\xc0\xae": 2, "\uFFFD": 1, "\x00\x00": 2, "e\u0301": 2} {
		if got := name.Runes(s); got != want {
			t.Errorf("Runes(%q): %d", s, got)
		}
	}
	if n := name.Runes(strings.Repeat("aé\xff", 100000)); n != 300000 {
		t.Errorf("of a long text: %d", n)
	}
}

// P6.2
func TestParts(t *testing.T) {
	for _, c := range []struct {
		s    string
		want []string
	}{
		{"", []string{""}},
		{"a", []string{"a"}},
		{"a.b", []string{"a", "b"}},
		{"a.b@", []string{"a", "b", ""}},
		{".", []string{"", ""}},
		{"..", []string{"", "", ""}},
		{".a", []string{"", "a"}},
		{"a-b_c@d+e.f", []string{"a", "b", "c", "d", "e", "f"}},
		{"-_@+.", []string{"", "", "", "", "", ""}},
		{"é.ω@😀", []string{"é", "ω", "😀"}},
		{"A b,c", []string{"A b,c"}},
		{"\xff.\xc3.\xe2\x82+\xff\xfe", []string{"\xff", "\xc3", "\xe2\x82", "\xff\xfe"}},
		{"\xc0\xae.\uFFFD", []string{"\xc0\xae", "\uFFFD"}},
	} {
		for range 2 {
			if got := name.Parts(c.s); !slices.Equal(got, c.want) {
				t.Errorf("Parts(%q): %q", c.s, got)
			}
		}
	}
	if l := name.Parts(strings.Repeat("ab.", 100000)); len(l) != 100001 || l[99999] != "ab" || l[100000] != "" {
		t.Errorf("of a long text: %d", len(l))
	}
}

// P6.2, K3: an answer shares no memory with what was handed in, nor with another one.
func TestMemory(t *testing.T) {
	for _, s := range []string{"nothing to fold", "Something To Fold", "äöü"} {
		if within(s, name.Fold(s)) || within(name.Fold(s), name.Fold(s)) {
			t.Errorf("Fold keeps %q", s)
		}
	}
	for _, s := range []string{"one part", "some.parts@of+it"} {
		l, again := name.Parts(s), name.Parts(s)
		for i := range l {
			if within(s, l[i]) || within(l[i], again[i]) {
				t.Errorf("Parts keeps %q", s)
			}
		}
		l[0] = "x"
		_ = append(l[:1], "y")
		if !slices.Equal(again, parted(s)) || !slices.Equal(name.Parts(s), parted(s)) {
			t.Errorf("Parts shares a list: %q", again)
		}
	}
}

// within: does a part's first byte lie in the whole's memory?
func within(whole, part string) bool {
	from := uintptr(unsafe.Pointer(unsafe.StringData(whole)))
	at := uintptr(unsafe.Pointer(unsafe.StringData(part)))
	return at >= from && at < from+uintptr(len(whole))
}
