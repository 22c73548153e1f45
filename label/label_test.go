package label_test

import (
	"crypto/hmac"
	"crypto/sha256"
	"encoding/binary"
	"math"
	"strings"
	"testing"

	"chirograph/api"
	"chirograph/label"
	"chirograph/name"
	"chirograph/sha"
)

// joined is the sum of a tag and of texts, each behind its length, by the library.
func joined(tag byte, texts ...string) api.Label {
	b := []byte{tag}
	for _, s := range texts {
		b = append(binary.BigEndian.AppendUint32(b, uint32(len(s))), s...)
	}
	return sha256.Sum256(b)
}

// mac is that of a text, by the library.
func mac(key, text string) api.Label {
	h := hmac.New(sha256.New, []byte(key))
	h.Write([]byte(text))
	return api.Label(h.Sum(nil))
}

// of is a label of any bytes.
func of(n byte) api.Label {
	var l api.Label
	for i := range l {
		l[i] = n * byte(i+1)
	}
	return l
}

func seed(t *testing.T, key, id string, version int) api.Label {
	t.Helper()
	l, e := label.Seed(key, id, version)
	if e != api.OK {
		t.Fatalf("Seed(%q, %q, %d): %d", key, id, version, e)
	}
	return l
}

// P14.1: the chapter's example.
func TestExample(t *testing.T) {
	x := seed(t, "k", "ann", 3)
	if x != sha.Mac("k", "\x01\x03\x61\x6e\x6e\x01\x03") || !label.Check(label.Public("k"), "k", "ann", 3, x) {
		t.Errorf("%x", x)
	}
}

// P14.1: which texts may be keys.
func TestGood(t *testing.T) {
	for key, want := range map[string]bool{
		"": false, "k": true, "\x00": true, "\xff\xfe": true, " ": true, "Ann!": true,
		strings.Repeat("k", 63): true, strings.Repeat("k", 64): true, strings.Repeat("k", 65): false,
		strings.Repeat("ÿ", 32): true, strings.Repeat("ÿ", 33): false, strings.Repeat("k", 70000): false,
	} {
		if label.Good(key) != want {
			t.Errorf("Good(%.70q): %v", key, !want)
		}
	}
}

// P14.1: what is told of a key, of any text.
func TestPublic(t *testing.T) {
	for _, key := range []string{"", "k", "k\x00", strings.Repeat("k", 64), strings.Repeat("k", 65), "\x00\xff"} {
		if label.Public(key) != joined(1, key) {
			t.Errorf("Public(%q)", key)
		}
	}
}

// P14.1: seeds by keys, identities and versions of all sizes.
func TestSeed(t *testing.T) {
	long := strings.Repeat("ö", 40) // letters of two bytes
	for _, x := range []struct {
		key, id string
		version int
		text    string
	}{
		{"k", "a", 0, "\x01\x01a\x00"},
		{"k", "a", 1, "\x01\x01a\x01\x01"},
		{"k", "a", 255, "\x01\x01a\x01\xff"},
		{"k", "a", 256, "\x01\x01a\x02\x01\x00"},
		{"k", "ann.b@x1", 65536, "\x01\x08ann.b@x1\x03\x01\x00\x00"},
		{"k", "ä1", 1<<30 - 1, "\x01\x03ä1\x04\x3f\xff\xff\xff"},
		{strings.Repeat("k", 64), long, 1 << 30, "\x01\x50" + long + "\x04\x40\x00\x00\x00"},
		{"\x00", "7", 7, "\x01\x017\x01\x07"},
	} {
		if l := seed(t, x.key, x.id, x.version); l != mac(x.key, x.text) {
			t.Errorf("%q, %q, %d: %x", x.key, x.id, x.version, l)
		}
	}
}

// bad are a key, an identity and a version of which there is no seed.
type bad struct {
	key, id string
	version int
	want    api.Errno
}

func bads() []bad {
	far := strings.Repeat("k", 65)
	return []bad{
		{"", "ann", 0, api.ErrArg}, {far, "ann", 0, api.ErrArg},
		{"k", "", 0, api.ErrEnd}, {"k", "Ann", 0, api.ErrForm}, {"k", "a..b", 0, api.ErrForm}, {"k", "ann.", 0, api.ErrForm},
		{"k", "a\xff", 0, api.ErrText}, {"k", strings.Repeat("a", 41), 0, api.ErrBig}, {"k", "a b", 1, api.ErrForm},
		{"k", "ann", -1, api.ErrArg}, {"k", "ann", 1<<30 + 1, api.ErrArg}, {"k", "ann", math.MinInt, api.ErrArg}, {"k", "ann", math.MaxInt, api.ErrArg},
		// The key is named first, then the identity.
		{"", "", 0, api.ErrArg}, {far, "A", -1, api.ErrArg}, {"k", "", -1, api.ErrEnd}, {"k", "A", 1<<30 + 1, api.ErrForm}, {"k", "\xff", -1, api.ErrText},
	}
}

// P14.1: each error, and nothing beside it.
func TestSeedErrors(t *testing.T) {
	for i, x := range bads() {
		if l, e := label.Seed(x.key, x.id, x.version); e != x.want || l != (api.Label{}) {
			t.Errorf("%d: %d instead of %d, %x", i, e, x.want, l)
		}
	}
	for _, id := range []string{"", ".", "a.", "Ä", "a\xc3", "ann", strings.Repeat("a-", 20) + "a"} {
		_, want := name.Check(id)
		if _, e := label.Seed("k", id, 5); e != want {
			t.Errorf("%q: %d instead of %d", id, e, want)
		}
	}
}

// P14.1: just the seed of this key, identity and version, and what is told of this key, are taken.
func TestCheck(t *testing.T) {
	public, x := label.Public("k"), seed(t, "k", "ann", 3)
	for i, y := range []struct {
		public  api.Label
		key, id string
		version int
		seed    api.Label
		want    bool
	}{
		{public, "k", "ann", 3, x, true},
		{public, "k", "ann", 2, x, false}, {public, "k", "ann", 2, seed(t, "k", "ann", 2), true},
		{public, "k", "anna", 3, x, false}, {public, "k", "ann", 3, seed(t, "k", "anna", 3), false},
		{public, "j", "ann", 3, x, false}, {public, "j", "ann", 3, seed(t, "j", "ann", 3), false},
		{label.Public("j"), "k", "ann", 3, x, false}, {label.Public("j"), "j", "ann", 3, seed(t, "j", "ann", 3), true},
		// One Mac, but not one key.
		{public, "k\x00", "ann", 3, seed(t, "k\x00", "ann", 3), false}, {label.Public("k\x00"), "k", "ann", 3, x, false},
		{api.Label{}, "k", "ann", 3, x, false}, {public, "k", "ann", 3, api.Label{}, false}, {x, "k", "ann", 3, public, false},
	} {
		if label.Check(y.public, y.key, y.id, y.version, y.seed) != y.want {
			t.Errorf("%d: %v", i, !y.want)
		}
	}
	for bit := range 256 {
		other := x
		other[bit/8] ^= 1 << (bit % 8)
		told := public
		told[bit/8] ^= 1 << (bit % 8)
		if label.Check(public, "k", "ann", 3, other) || label.Check(told, "k", "ann", 3, x) {
			t.Errorf("bit %d isn't looked at", bit)
		}
	}
}

// P14.1: where there is no seed none is taken: not the zero label, and not what would be summed.
func TestCheckOfWrongArguments(t *testing.T) {
	for i, x := range bads() {
		text := string([]byte{1, byte(len(x.id))}) + x.id + "\x00"
		for _, s := range []api.Label{{}, mac(x.key, text)} {
			if label.Check(label.Public(x.key), x.key, x.id, x.version, s) {
				t.Errorf("%d: taken", i)
			}
		}
	}
}

// P14.1: what is summed of a seed, a nonce, a value, and of nothing.
func TestSums(t *testing.T) {
	values := []string{"", "x", "\x00", strings.Repeat("v", 200), strings.Repeat("v", 5000), "\xff"}
	for n := range byte(5) {
		x := of(n)
		s := string(x[:])
		if label.Fresh(x) != joined(2, s) || label.Stale(x) != joined(3, s) {
			t.Errorf("%d: Fresh, Stale", n)
		}
		for _, key := range []string{"", "k", strings.Repeat("k", 64), strings.Repeat("k", 65)} {
			if label.Nonce(key, x) != mac(key, "nonce"+s) {
				t.Errorf("%d, %q: Nonce", n, key)
			}
		}
		for _, v := range values {
			if label.Commit(v, x) != joined(4, s, v) {
				t.Errorf("%d, %.9q: Commit", n, v)
			}
		}
	}
	if label.Tomb() != joined(5) || label.Mark() != joined(6) {
		t.Error("Tomb, Mark")
	}
}

// P14.1: the tags.
func TestTags(t *testing.T) {
	if [...]int{label.Keys, label.Freshes, label.Stales, label.Commits, label.Tombs, label.Marks} != [...]int{1, 2, 3, 4, 5, 6} {
		t.Error("tags")
	}
}

// P14.2: unlike identities and versions, and unlike tags, have unlike sums.
func TestUnlike(t *testing.T) {
	seen := map[api.Label]string{}
	once := func(l api.Label, what string) {
		t.Helper()
		if seen[l] != "" {
			t.Errorf("%q and %q are alike", seen[l], what)
		}
		seen[l] = what
	}
	for _, id := range []string{"a", "a1", "a11", "1", "11", "1a", "nonce", "ann", "ann.b", "annb", "ä"} {
		for _, v := range []int{0, 1, 2, 11, 97, 255, 256, 257, 1 << 16, 1 << 24, 1 << 30} {
			x := seed(t, "k", id, v)
			once(x, "seed "+id)
			once(label.Fresh(x), "fresh "+id)
			once(label.Stale(x), "stale "+id)
			once(label.Nonce("k", x), "nonce "+id)
			for _, value := range []string{"", "a", "aa"} {
				once(label.Commit(value, label.Nonce("k", x)), "commit "+id+value)
			}
			once(label.Public(string(x[:])), "public "+id)
		}
	}
	once(label.Tomb(), "tomb")
	once(label.Mark(), "mark")
}
