package sha_test

import (
	"crypto/hmac"
	"crypto/sha256"
	"encoding/hex"
	"fmt"
	"slices"
	"strings"
	"testing"

	"chirograph/api"
	"chirograph/sha"
)

// mixed is a text of n bytes of all kinds, another one for each seed.
func mixed(n int, seed uint32) string {
	b := make([]byte, n)
	x := seed*2654435761 + 99
	for i := range b {
		x = x*1664525 + 1013904223
		b[i] = byte(x >> 24)
	}
	return string(b)
}

func hexed(l api.Label) string {
	return hex.EncodeToString(l[:])
}

// sized are lengths about the places where a block, or what stands behind a text, is full.
func sized() []int {
	var l []int
	for n := range 260 {
		l = append(l, n)
	}
	return append(l, 503, 504, 511, 512, 513, 4095, 4096, 65535, api.MaxText, api.MaxText+1, 1<<20+7)
}

// P3.1: published sums.
func TestSumsThatArePublished(t *testing.T) {
	for s, want := range map[string]string{
		"":    "e3b0c44298fc1c149afbf4c8996fb92427ae41e4649b934ca495991b7852b855",
		"a":   "ca978112ca1bbdcafac231b39a23dc4da786eff8147c4e72b9807785afee48bb",
		"abc": "ba7816bf8f01cfea414140de5dae2223b00361a396177a9cb410ff61f20015ad",
		"abcdbcdecdefdefgefghfghighijhijkijkljklmklmnlmnomnopnopq":                                                         "248d6a61d20638b8e5c026930c3e6039a33ce45964ff2167f6ecedd419db06c1",
		"abcdefghbcdefghicdefghijdefghijkefghijklfghijklmghijklmnhijklmnoijklmnopjklmnopqklmnopqrlmnopqrsmnopqrstnopqrstu": "cf5b16a778af8380036ce59e7b0492370b249b11e8f07a51afac45037afee9d1",
		strings.Repeat("a", 1000000): "cdc76e5c9914fb9281a1c7e284d73e67f1809a48a497200e046d39ccc7112cd0",
	} {
		if got := hexed(sha.Sum(s)); got != want {
			t.Errorf("Sum of %.20q, %d bytes: %s", s, len(s), got)
		}
	}
}

// P3.1: texts of each length about the edges, with all bytes.
func TestSum(t *testing.T) {
	for _, n := range sized() {
		for _, s := range []string{mixed(n, uint32(n)), strings.Repeat("\x00", n), strings.Repeat("\xff", n), strings.Repeat("\x80", n)} {
			want := api.Label(sha256.Sum256([]byte(s)))
			for range 2 {
				if got := sha.Sum(s); got != want {
					t.Fatalf("Sum of %.20x, %d bytes: %x", s, n, got)
				}
			}
		}
	}
	if sha.Block != 64 {
		t.Error("Block")
	}
}

// P3.1: a text of so many bits that four bytes can't count them.
func TestSumOfManyBits(t *testing.T) {
	if testing.Short() {
		t.Skip("it sums half a gigabyte")
	}
	const piece = 1 << 20
	s := strings.Repeat("k", 512*piece)
	h := sha256.New()
	for range 512 {
		h.Write([]byte(s[:piece]))
	}
	if got := sha.Sum(s); got != api.Label(h.Sum(nil)) {
		t.Errorf("%x", got)
	}
}

// P3.1, P3.2, P3.3, K4: calls that run side by side have nothing in common.
func TestSideBySide(t *testing.T) {
	for i := range 8 {
		t.Run(fmt.Sprint(i), func(t *testing.T) {
			t.Parallel()
			for n := range 200 {
				s := mixed(n, uint32(i))
				if sha.Sum(s) != sha256.Sum256([]byte(s)) || sha.Mac(s, s) != mac(s, s) || sha.Joined(9, s, s) != sha256.Sum256([]byte(summed(9, s, s))) {
					t.Fatalf("%d bytes", n)
				}
			}
		})
	}
}

func mac(key, text string) api.Label {
	h := hmac.New(sha256.New, []byte(key))
	h.Write([]byte(text))
	return api.Label(h.Sum(nil))
}

// P3.2: published sums (RFC 4231), and the chapter's.
func TestMacsThatArePublished(t *testing.T) {
	rising := ""
	for i := range 25 {
		rising += string([]byte{byte(i + 1)})
	}
	long := strings.Repeat("\xaa", 131)
	for _, x := range [][3]string{
		{strings.Repeat("\x0b", 20), "Hi There", "b0344c61d8db38535ca8afceaf0bf12b881dc200c9833da726e9376c2e32cff7"},
		{"Jefe", "what do ya want for nothing?", "5bdcc146bf60754e6a042426089575c75a003f089d2739839dec58b964ec3843"},
		{strings.Repeat("\xaa", 20), strings.Repeat("\xdd", 50), "773ea91e36800e46854db8ebd09181a72959098b3ef8c122d9635514ced565fe"},
		{rising, strings.Repeat("\xcd", 50), "82558a389a443c0ea4cc819899f2083a85f0faa3e578f8077a2e3ff46729665b"},
		{long, "Test Using Larger Than Block-Size Key - Hash Key First", "60e431591ee0b67f0d8a26aacbf5b77f8e0bc6213728c5140546040f0ee37f54"},
		{long, "This is a test using a larger than block-size key and a larger than block-size data. The key needs to be hashed before being used by the HMAC algorithm.", "9b09ffa71b942fcb27635fbcd5b0e944bfdc63644f0713938a7f51535c3a35e2"},
		{"key", "The quick brown fox jumps over the lazy dog", "f7bc83f430538424b13298e6aa6fb143ef4d59a14946175997479dbc2d1a3cd8"},
		{"", "", "b613679a0814d9ec772f95d778c35fc5ff1697c493715653c6c712144292c5ad"},
	} {
		if got := hexed(sha.Mac(x[0], x[1])); got != x[2] {
			t.Errorf("Mac(%q, %q): %s", x[0], x[1], got)
		}
	}
}

// P3.2: keys and texts of each length about the edges.
func TestMac(t *testing.T) {
	for n := range 200 {
		for _, m := range []int{0, 1, 31, 55, 56, 63, 64, 65, 119, 120, 128, 1000} {
			key, text := mixed(n, 5), mixed(m, 6)
			for range 2 {
				if got := sha.Mac(key, text); got != mac(key, text) {
					t.Fatalf("a key of %d bytes, a text of %d: %x", n, m, got)
				}
			}
		}
	}
	for _, n := range []int{4096, api.MaxText, 1<<20 + 7} {
		key, text := mixed(n, 7), mixed(n, 8)
		if sha.Mac(key, "x") != mac(key, "x") || sha.Mac("x", text) != mac("x", text) {
			t.Errorf("%d bytes", n)
		}
	}
}

// P3.2: noughts fill a key up to 64 bytes; of a longer one stands its sum.
func TestMacKeys(t *testing.T) {
	whole := mixed(64, 9)
	for n := range 64 {
		key := whole[:n]
		if sha.Mac(key, "t") != sha.Mac(key+strings.Repeat("\x00", 64-n), "t") {
			t.Errorf("a key of %d bytes isn't filled up by noughts", n)
		}
	}
	sum := sha.Sum(whole)
	if sha.Mac(whole, "t") == sha.Mac(string(sum[:]), "t") {
		t.Error("a key of 64 bytes is summed")
	}
	sum = sha.Sum(whole + "\x00")
	if sha.Mac(whole+"\x00", "t") != sha.Mac(string(sum[:]), "t") {
		t.Error("a key of 65 bytes isn't summed")
	}
}

// summed is what Joined sums, by the chapter's words.
func summed(tag byte, texts ...string) string {
	b := []byte{tag}
	for _, s := range texts {
		b = append(b, byte(len(s)/0x1000000), byte(len(s)/0x10000%256), byte(len(s)/256%256), byte(len(s)%256))
		b = append(b, s...)
	}
	return string(b)
}

// P3.3
func TestJoined(t *testing.T) {
	for tag := range 256 {
		b := byte(tag)
		one := string([]byte{b})
		if sha.Joined(b) != sha.Sum(one) || sha.Joined(b, []string{}...) != sha.Sum(one) {
			t.Errorf("tag %d alone", tag)
		}
		if sha.Joined(b, "") != sha.Sum(one+"\x00\x00\x00\x00") {
			t.Errorf("tag %d and an empty text", tag)
		}
		if sha.Joined(b, "ann", "", "b") != sha.Sum(one+"\x00\x00\x00\x03ann\x00\x00\x00\x00\x00\x00\x00\x01b") {
			t.Errorf("tag %d and three texts", tag)
		}
	}
	for _, n := range append(sized(), 1<<24-1, 1<<24, 1<<24+258) {
		s := mixed(n, 11)
		if sha.Joined(3, s) != sha256.Sum256([]byte(summed(3, s))) || sha.Joined(0xff, "a", s, s, "z") != sha256.Sum256([]byte(summed(0xff, "a", s, s, "z"))) {
			t.Fatalf("a text of %d bytes", n)
		}
	}
	var many []string
	for i := range 1000 {
		many = append(many, mixed(i%70, uint32(i)))
	}
	kept := slices.Clone(many)
	for range 2 {
		if sha.Joined(0, many...) != sha256.Sum256([]byte(summed(0, kept...))) {
			t.Error("1000 texts")
		}
	}
	if !slices.Equal(many, kept) {
		t.Error("what was handed in is another")
	}
}

// P3.3: lists that are easily mistaken for one another have sums that are unlike.
func TestJoinedApart(t *testing.T) {
	texts := []string{"", "a", "b", "ab", "ba", "aa", "\x00", "\x00\x00", "\x00\x00\x00\x00", "\x00\x00\x00\x01", "\x00\x00\x00\x01a", "a\x00\x00\x00\x01b", "\x01", "a\x00", "\x00a", "a\x00\x00\x00\x00"}
	lists := [][]string{nil}
	for from := 0; len(lists[from]) < 3; from++ {
		for _, s := range texts {
			lists = append(lists, append(slices.Clone(lists[from]), s))
		}
	}
	seen := map[api.Label]string{}
	for _, l := range lists {
		for _, tag := range []byte{0, 1, 'a'} {
			told := fmt.Sprintf("%d %q", tag, l)
			sum := sha.Joined(tag, l...)
			if other := seen[sum]; other != "" {
				t.Fatalf("one sum: %s, %s", told, other)
			}
			seen[sum] = told
		}
	}
	if len(seen) != 3*(1+16+16*16+16*16*16) {
		t.Errorf("%d lists", len(seen))
	}
}
