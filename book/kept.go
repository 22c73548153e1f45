package book

import (
	"strings"

	"chirograph/api"
	"chirograph/code"
	"chirograph/store"
)

// The keys of what is kept beside the leaves, whose keys begin with leaves.First.
const (
	epochKey = "e" // of the epoch's number
	values   = "v" // begins those of the versions' values
	beyond   = "w" // is behind all of these
)

// Between identity and version, in a key, stands bound, which is below all that an identity has in it: so keys rise by identities first.
const (
	bound = "\x00"
	above = "\x01" // stands behind an identity in what is behind all of its keys
)

// version is number n of an identity.
type version struct {
	id string
	n  int
}

// key: of the entry of a version's value. They rise by identities, and then by versions.
func (v version) key() string {
	return values + v.id + bound + number(v.n)
}

// readVersion: of which version's value this is the key.
func readVersion(key string) (version, api.Errno) {
	id, n, _ := strings.Cut(strings.TrimPrefix(key, values), bound)
	at, e := readNumber(n)
	return version{id, at}, e
}

// latest: the greatest version of an identity; 0, if there is none.
func (b *Book) latest(id string) (int, api.Errno) {
	// It is never dropped, so it is the last one that is kept.
	l, e := b.store.Scan(values+id+bound, values+id+above)
	if e != api.OK || len(l) == 0 {
		return 0, e
	}
	v, e := readVersion(l[len(l)-1].Key)
	return v.n, e
}

// epochEntry: of the epoch's number.
func epochEntry(n int) api.Entry {
	return api.Entry{Key: epochKey, Value: number(n)}
}

// readEpoch: the epoch of a store; of a new one 0.
func readEpoch(s *store.Store) (int, api.Errno) {
	text, is, e := s.Get(epochKey)
	if e != api.OK || !is {
		return 0, e
	}
	return readNumber(text)
}

// number: the bytes of a number that isn't below 0; those of greater ones stand behind them.
func number(n int) string {
	var w code.Writer
	w.Number(n)
	// No error: what is numbered here counts from 0 on.
	s, _ := w.Done()
	return s
}

func readNumber(s string) (int, api.Errno) {
	r := code.Open(s)
	n := r.Number()
	if e := r.Done(); e != api.OK {
		return 0, e
	}
	return n, api.OK
}
