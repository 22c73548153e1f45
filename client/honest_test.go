package client_test

import (
	"fmt"
	"slices"
	"testing"

	"chirograph/api"
	"chirograph/book"
	"chirograph/client"
	"chirograph/disk"
	"chirograph/label"
	"chirograph/level"
	"chirograph/store"
)

// dice are numbers of all kinds, other ones for each seed.
type dice uint32

func (d *dice) roll(n int) int {
	*d = *d*1664525 + 1013904223
	return int(*d>>8) % n
}

// The key of all directories here.
const key = "secret"

// names are identities.
func names() []string {
	return []string{"ann", "ann.b", "bob", "яя"}
}

// honest is a directory, and by which epochs each identity's versions were published, from version 1 on.
type honest struct {
	*book.Book
	retain, grace int
	since         map[string][]int
}

func begun(t *testing.T, retain, grace int) *honest {
	t.Helper()
	b, e := book.Open(disk.New(1<<20), book.Options{Store: store.Options{Mem: 1 << 20, Block: 1 << 14, Table: 1 << 15, Limits: level.Limits{Count: 100, Size: 1 << 30}}, Key: key, Retain: retain, Grace: grace})
	is(t, "Open", e, api.OK)
	return &honest{b, retain, grace, map[string][]int{}}
}

func is(t *testing.T, what string, e, want api.Errno) {
	t.Helper()
	if e != want {
		t.Fatalf("%s: %d instead of %d", what, e, want)
	}
}

// publish: a value more for each of these identities.
func (h *honest) publish(t *testing.T, ids ...string) {
	t.Helper()
	var l []book.Update
	for _, id := range ids {
		l = append(l, book.Update{Id: id, Value: fmt.Sprint(id, len(h.since[id])%3)})
		h.since[id] = append(h.since[id], h.Epoch()+1)
	}
	_, e := h.Publish(l)
	is(t, "Publish", e, api.OK)
}

// goes on by one call of any kind.
func (h *honest) goes(t *testing.T, r *dice) {
	t.Helper()
	switch r.roll(6) {
	case 0:
		h.Bury()
	case 1:
		h.Drop()
	default:
		ids := names()
		from := r.roll(len(ids) + 1)
		h.publish(t, ids[from:min(from+1+r.roll(2), len(ids))]...)
	}
}

// sees is what is known of the directory now.
func (h *honest) sees() client.View {
	return client.View{Epoch: h.Epoch(), Top: h.Top(), Public: label.Public(key), Key: key}
}

func (h *honest) version(t *testing.T, id string, n int) book.Answer {
	t.Helper()
	a, e := h.Version(id, n)
	is(t, "Version", e, api.OK)
	return a
}

func (h *honest) lookup(t *testing.T, id string) book.Answer {
	t.Helper()
	a, e := h.Lookup(id)
	is(t, "Lookup", e, api.OK)
	return a
}

func (h *honest) history(t *testing.T, id string) []book.Answer {
	t.Helper()
	l, e := h.History(id)
	is(t, "History", e, api.OK)
	return l
}

// past is by which epoch the version of an answer was superseded, as far as the tree tells.
func (h *honest) past(a book.Answer) int {
	since := h.since[a.Id]
	if a.State == book.Absent || a.Version == 0 || a.Version >= len(since) {
		return 0
	}
	return since[a.Version]
}

// believed asks that all that the directory answers is believed, and by which epochs versions were superseded.
func (h *honest) believed(t *testing.T) {
	t.Helper()
	v := h.sees()
	for _, id := range append(names(), "nobody") {
		for n := range len(h.since[id]) + 2 {
			a := h.version(t, id, n)
			if past, e := v.Version(a); e != api.OK || past != h.past(a) {
				t.Fatalf("Version of %v: %d, %d instead of %d", a, past, e, h.past(a))
			}
		}
		is(t, "Lookup", v.Lookup(h.lookup(t, id)), api.OK)
		l := h.history(t, id)
		kept := slices.Clone(l)
		for retain := range h.retain + 1 {
			for grace := range h.grace + 1 {
				is(t, "History", v.History(l, retain, grace), api.OK)
			}
		}
		if !slices.Equal(l, kept) {
			t.Fatalf("changed: %v", l)
		}
	}
}

// P21.1: whatever is done with a directory, all that it answers is believed.
func TestHonest(t *testing.T) {
	states := map[int]int{}
	for seed := range 16 {
		r := dice(seed)
		h := begun(t, 1+r.roll(3), r.roll(3))
		h.believed(t)
		for range 20 {
			h.goes(t, &r)
			h.believed(t)
		}
		for _, id := range names() {
			for n := range h.since[id] {
				states[h.version(t, id, n+1).State]++
			}
		}
	}
	if states[book.Absent] < 20 || states[book.Present] < 20 || states[book.Buried] < 20 {
		t.Errorf("of each state: %v", states)
	}
}

// P21.1, P21.2: the chapter's example.
func TestExample(t *testing.T) {
	h := begun(t, 1, 0)
	h.publish(t, "ann")
	h.publish(t, "ann")
	v, a := h.sees(), h.lookup(t, "ann")
	is(t, "Lookup", v.Lookup(a), api.OK)
	other := a
	other.Value = "x"
	is(t, "another value", v.Lookup(other), api.ErrProof)
	is(t, "version 1", v.Lookup(h.version(t, "ann", 1)), api.ErrProof)
	_, e := h.Bury()
	is(t, "Bury", e, api.OK)
	v = h.sees()
	is(t, "buried", v.Lookup(h.version(t, "ann", 1)), api.ErrProof)
	is(t, "History", v.History(h.history(t, "ann"), 1, 1<<20), api.OK)
	is(t, "buried too early", v.History(h.history(t, "ann"), 2, 0), api.ErrProof)
	_, e = h.Drop()
	is(t, "Drop", e, api.OK)
	v = h.sees()
	is(t, "dropped", v.Lookup(h.version(t, "ann", 1)), api.ErrProof)
	is(t, "History", v.History(h.history(t, "ann"), 2, 0), api.OK)
	is(t, "History", v.History(h.history(t, "ann"), 1, 1), api.OK)
	is(t, "dropped too early", v.History(h.history(t, "ann"), 1, 2), api.ErrProof)
	is(t, "nobody", v.Lookup(h.lookup(t, "bob")), api.OK)
	is(t, "nobody", v.History(h.history(t, "bob"), 1, 0), api.OK)
}

// told is what an answer says, whatever proves it.
func told(a book.Answer) book.Answer {
	a.Fresh, a.Stale = "", ""
	return a
}

// altered is an answer of which something was changed, or taken of another one.
func altered(r *dice, a, b book.Answer) book.Answer {
	for range 1 + r.roll(3) {
		switch r.roll(10) {
		case 0:
			a.Id = b.Id
		case 1:
			a.Version = b.Version
		case 2:
			a.State = r.roll(4)
		case 3:
			a.Value = b.Value
		case 4:
			a.Value = ""
		case 5:
			a.At = r.roll(a.Epoch + 2)
		case 6:
			a.Epoch = b.Epoch
		case 7:
			a.Fresh, a.Stale = b.Fresh, b.Stale
		case 8:
			a.Fresh, a.Stale = a.Stale, a.Fresh
		case 9:
			a.Fresh = turned(r, a.Fresh)
		}
	}
	return a
}

// turned is a text of which a bit is turned.
func turned(r *dice, s string) string {
	if s == "" {
		return s
	}
	b := []byte(s)
	b[r.roll(len(b))] ^= 1 << r.roll(8)
	return string(b)
}

// P21.2: what is believed of an honest directory's tree is what it says, however answers, of this epoch and of others, are mixed and altered.
func TestSure(t *testing.T) {
	believed, refused := 0, 0
	for seed := range 40 {
		r := dice(seed)
		h := begun(t, 1+r.roll(2), r.roll(2))
		var all []book.Answer
		for range 14 {
			h.goes(t, &r)
			for _, id := range append(names(), "nobody") {
				for n := range len(h.since[id]) + 2 {
					all = append(all, h.version(t, id, n))
				}
			}
		}
		v := h.sees()
		// The newest ones stand at the end.
		some := func() book.Answer { return all[len(all)-1-r.roll(min(len(all), 20))] }
		for range 400 {
			a := altered(&r, some(), all[r.roll(len(all))])
			if _, e := v.Version(a); e != api.OK {
				refused++
				is(t, "Lookup beside Version", v.Lookup(a), e)
				continue
			}
			believed++
			if is := h.version(t, a.Id, a.Version); told(a) != told(is) {
				t.Fatalf("believed: %v instead of %v", a, is)
			}
			if v.Lookup(a) == api.OK && told(a) != told(h.lookup(t, a.Id)) {
				t.Fatalf("believed as the latest: %v", a)
			}
		}
	}
	if believed < 500 || refused < 5000 {
		t.Errorf("%d believed, %d refused", believed, refused)
	}
}

// P21.2: a history that is believed is the one that the directory tells: none of it is left out, or put in.
func TestSureHistory(t *testing.T) {
	believed, refused := 0, 0
	for seed := range 40 {
		r := dice(seed)
		h := begun(t, 1+r.roll(2), r.roll(2))
		for range 14 {
			h.goes(t, &r)
		}
		v := h.sees()
		for range 60 {
			id := names()[r.roll(len(names()))]
			l := h.history(t, id)
			at := r.roll(len(l))
			switch r.roll(5) {
			case 0:
				l = slices.Delete(l, at, at+1)
			case 1:
				l = slices.Insert(l, at, h.version(t, id, r.roll(5)))
			case 2:
				l = l[:at]
			case 3:
				l[at] = h.version(t, names()[r.roll(len(names()))], l[at].Version)
			case 4:
				l = append(l, h.version(t, id, max(0, l[len(l)-1].Version-1)))
			}
			if v.History(l, h.retain, h.grace) != api.OK {
				refused++
				continue
			}
			believed++
			if !slices.Equal(l, h.history(t, id)) {
				t.Fatalf("believed: %v", l)
			}
		}
	}
	if believed < 50 || refused < 1000 {
		t.Errorf("%d believed, %d refused", believed, refused)
	}
}
