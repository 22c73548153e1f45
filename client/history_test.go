package client_test

import (
	"slices"
	"testing"

	"chirograph/api"
	"chirograph/book"
	"chirograph/label"
	"chirograph/node"
)

// meantHistory is what History is to answer, by the chapter's words, where Version and Lookup are right; and which clause says so.
func (f forest) meantHistory(l []book.Answer, retain, grace int) (api.Errno, string) {
	if len(l) == 0 {
		return api.ErrEnd, "empty"
	}
	if e := f.Lookup(l[0]); e != api.OK {
		return e, "first"
	}
	if l[0].Version == 0 && len(l) > 1 {
		return api.ErrForm, "more than version 0"
	}
	if l[0].Version == 0 {
		return api.OK, "version 0"
	}
	for i := 1; i < len(l); i++ {
		a, ahead := l[i], l[i-1]
		past, e := f.Version(a)
		age := f.Epoch - ahead.At
		for _, c := range []struct {
			name string
			is   bool
			e    api.Errno
		}{
			{"behind version 0", ahead.Version == 0, api.ErrForm},
			{"behind Absent", ahead.State == book.Absent, api.ErrForm},
			{"another Id", ahead.Id != a.Id, api.ErrForm},
			{"not one more", ahead.Version != a.Version+1, api.ErrForm},
			{"Version", e != api.OK, e},
			{"version 0 isn't Present", a.Version == 0 && a.State != book.Present, api.ErrProof},
			{"not superseded", a.State != book.Absent && a.Version != 0 && past == 0, api.ErrProof},
			{"not superseded just then", a.State != book.Absent && a.Version != 0 && past != ahead.At, api.ErrProof},
			{"buried too early", a.State == book.Buried && age < retain, api.ErrProof},
			{"absent too early", a.State == book.Absent && a.Version != 0 && age < retain, api.ErrProof},
			{"dropped too early", a.State == book.Absent && a.Version != 0 && age-retain < grace, api.ErrProof},
		} {
			if c.is {
				return c.e, c.name
			}
		}
	}
	if last := l[len(l)-1]; last.Version != 0 && last.State != book.Absent {
		return api.ErrEnd, "cut off"
	}
	if l[len(l)-1].Version == 0 {
		return api.OK, "down to 0"
	}
	return api.OK, "down to a dropped one"
}

// grove is a tree of some versions of ann and of bob, mostly as they should be, and the answers that tell of them, the newest first.
func grove(t *testing.T, r *dice) (forest, map[string][]book.Answer) {
	t.Helper()
	var leaves []node.Leaf
	told := map[string][]book.Answer{}
	for _, id := range []string{"ann", "bob"} {
		at := r.roll(2)
		there := r.roll(8) > 0
		if there {
			leaves = append(leaves, fresh(id, 0, label.Mark(), at))
		}
		told[id] = []book.Answer{{Id: id, State: min(1, len(leaves))}}
		if !there {
			told[id][0].State = book.Absent
		}
		most, lowest := r.roll(5), r.roll(3)
		for n := 1; n <= most; n++ {
			a := book.Answer{Id: id, Version: n}
			next := at + 1 + r.roll(3)
			switch {
			case n <= lowest:
			case r.roll(3) == 0 && n < most:
				a.State, a.At = book.Buried, at
				leaves = append(leaves, fresh(id, n, label.Tomb(), at))
			default:
				a.State, a.At, a.Value = book.Present, at, "v"
				leaves = append(leaves, fresh(id, n, commit(id, n, "v"), at))
			}
			if a.State != book.Absent && (n < most || r.roll(9) == 0) && r.roll(12) > 0 {
				leaves = append(leaves, stale(id, n, label.Mark(), next+r.roll(8)/7))
			}
			told[id] = append([]book.Answer{a}, told[id]...)
			at = next
		}
	}
	f := planted(t, 5+r.roll(8), leaves...)
	for _, l := range told {
		for i, a := range l {
			l[i] = f.proved(t, a)
		}
	}
	return f, told
}

// bent is a history of which something is left out, put in, or altered; mostly it stays.
func bent(t *testing.T, r *dice, f forest, l, other []book.Answer) []book.Answer {
	t.Helper()
	l = slices.Clone(l)
	if i := slices.IndexFunc(l, func(a book.Answer) bool { return a.State == book.Absent }); i > 0 {
		l = l[:i+1]
	}
	at := r.roll(len(l))
	switch r.roll(16) {
	case 0:
		return slices.Delete(l, at, at+1)
	case 1:
		return slices.Insert(l, at, other[r.roll(len(other))])
	case 2:
		return l[:at]
	case 3:
		l[at] = other[r.roll(len(other))]
	case 4:
		l[at].State = r.roll(3)
	case 5:
		l[at].At++
	case 6:
		last := l[len(l)-1]
		last.Version = max(0, last.Version-1)
		return append(l, f.proved(t, last))
	}
	return l
}

// P21.3: histories of any trees, right ones, and such as are bent, with any Retain and Grace; each of the chapter's cases is met.
func TestAnyHistory(t *testing.T) {
	count := map[string]int{}
	for seed := range 5000 {
		r := dice(seed)
		f, told := grove(t, &r)
		l := bent(t, &r, f, told["ann"], told["bob"])
		retain, grace := r.roll(5), r.roll(4)
		want, why := f.meantHistory(l, retain, grace)
		count[why]++
		kept := slices.Clone(l)
		if e := f.History(l, retain, grace); e != want {
			t.Fatalf("History of %v, %d, %d: %d instead of %d: %s", l, retain, grace, e, want, why)
		}
		if !slices.Equal(l, kept) {
			t.Fatalf("changed: %v", l)
		}
	}
	for _, why := range []string{
		"empty", "first", "more than version 0", "version 0", "behind version 0", "behind Absent", "another Id", "not one more", "Version",
		"version 0 isn't Present", "not superseded", "not superseded just then", "buried too early", "absent too early", "dropped too early", "cut off", "down to 0", "down to a dropped one",
	} {
		if count[why] < 10 {
			t.Errorf("%s: %d", why, count[why])
		}
	}
}

// P21.3: how old a version must be that is buried, and one that is dropped.
func TestAges(t *testing.T) {
	for epoch := 2; epoch < 9; epoch++ {
		newest := fresh("ann", 2, commit("ann", 2, "y"), 2)
		buried := planted(t, epoch, newest, fresh("ann", 0, label.Mark(), 1), fresh("ann", 1, label.Tomb(), 1), stale("ann", 1, label.Mark(), 2))
		dropped := planted(t, epoch, newest, fresh("ann", 0, label.Mark(), 1))
		two := book.Answer{Id: "ann", Version: 2, State: book.Present, Value: "y", At: 2}
		one := book.Answer{Id: "ann", Version: 1, State: book.Buried, At: 1}
		there := book.Answer{Id: "ann", State: book.Present}
		for _, retain := range []int{0, 1, 2, 3, 4, 1 << 20} {
			for _, grace := range []int{0, 1, 2, 3, 1 << 20} {
				want := map[bool]api.Errno{true: api.OK, false: api.ErrProof}
				l := []book.Answer{buried.proved(t, two), buried.proved(t, one), buried.proved(t, there)}
				if e := buried.History(l, retain, grace); e != want[epoch-2 >= retain] {
					t.Errorf("buried, epoch %d, Retain %d: %d", epoch, retain, e)
				}
				l = []book.Answer{dropped.proved(t, two), dropped.proved(t, book.Answer{Id: "ann", Version: 1})}
				if e := dropped.History(l, retain, grace); e != want[epoch-2 >= retain+grace] {
					t.Errorf("dropped, epoch %d, Retain %d, Grace %d: %d", epoch, retain, grace, e)
				}
			}
		}
	}
}

// P21.3: a version that wasn't superseded wasn't superseded by epoch 0 either.
func TestEpochNought(t *testing.T) {
	f := planted(t, 1, fresh("ann", 0, label.Mark(), 0), fresh("ann", 1, commit("ann", 1, "x"), 0), fresh("ann", 2, commit("ann", 2, "y"), 0))
	var l []book.Answer
	for _, a := range []book.Answer{{Version: 2, State: book.Present, Value: "y"}, {Version: 1, State: book.Present, Value: "x"}, {State: book.Present}} {
		a.Id = "ann"
		l = append(l, f.proved(t, a))
	}
	is(t, "the newest", f.Lookup(l[0]), api.OK)
	is(t, "the older one", f.Lookup(l[1]), api.OK)
	is(t, "History", f.History(l, 0, 0), api.ErrProof)
	is(t, "History", f.History(l[1:], 0, 0), api.OK)
}

// P21.3: the most epochs, and a list longer than any history.
func TestMost(t *testing.T) {
	const last = 1 << 30
	newest := book.Answer{Id: "ann", Version: last, State: book.Present, At: last}
	old := book.Answer{Id: "ann", Version: last - 1, State: book.Present, At: last - 1}
	f := planted(t, last, fresh("ann", last, commit("ann", last, ""), last), fresh("ann", last-1, commit("ann", last-1, ""), last-1), stale("ann", last-1, label.Mark(), last))
	l := []book.Answer{f.proved(t, newest), f.proved(t, old)}
	is(t, "cut off", f.History(l, 1<<20, 1<<20), api.ErrEnd)
	l = append(l, f.proved(t, book.Answer{Id: "ann", Version: last - 2}))
	is(t, "dropped too early", f.History(l, 2, 0), api.ErrProof)
	is(t, "dropped", f.History(l, 1, 0), api.OK)
	is(t, "again and again", f.History(slices.Repeat(l[:1], 5000), 1, 0), api.ErrForm)
	f = planted(t, last)
	is(t, "nobody", f.History([]book.Answer{f.proved(t, book.Answer{Id: "ann"})}, 1<<20, 1<<20), api.OK)
	is(t, "nothing", f.History(nil, 0, 0), api.ErrEnd)
}
