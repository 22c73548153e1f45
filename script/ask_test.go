package script

import (
	"testing"

	"chirograph/api"
	"chirograph/book"
)

func is(t *testing.T, what string, e, want api.Errno) {
	t.Helper()
	if e != want {
		t.Errorf("%s: %d instead of %d", what, e, want)
	}
}

// grown is a world in which ann's version 1 was buried, and maybe dropped, as early as may be.
func grown(t *testing.T, o book.Options, kinds ...int) *World {
	t.Helper()
	w, e := New(o, 1<<20)
	is(t, "New", e, api.OK)
	steps := []Step{{Kind: Publish, Updates: []book.Update{{Id: "ann", Value: "x"}}}, {Kind: Publish, Updates: []book.Update{{Id: "ann", Value: "y"}}}}
	for _, k := range kinds {
		steps = append(steps, Step{Kind: k})
	}
	for _, r := range w.Play(steps) {
		is(t, "Do", r.Err, api.OK)
	}
	is(t, "Ask", w.Ask("ann"), api.OK)
	return w
}

// P23.2: Ask asks those who believe what is proved: where they were told of another key, or of versions and tombs that are kept for longer, they don't. (From outside they are told what is so.)
func TestTold(t *testing.T) {
	var o book.Options
	o.Store.Mem, o.Store.Block, o.Store.Table, o.Store.Limits.Count, o.Store.Limits.Size = 400, 100, 400, 3, 1000
	o.Key, o.Retain = "k", 1
	for _, kinds := range [][]int{{Bury}, {Bury, Drop}} {
		for _, bend := range []func(w *World){
			func(w *World) { w.options.Key = "other" },
			func(w *World) { w.options.Retain = 9 },
			func(w *World) { w.options.Grace = 9 },
		} {
			w := grown(t, o, kinds...)
			all := w.Links
			bend(w)
			// Of the grace nothing is said as long as nothing was dropped; the key is nothing to an auditor.
			asks, watches := api.ErrProof, api.ErrProof
			if w.options.Grace > 0 && len(kinds) == 1 {
				asks, watches = api.OK, api.OK
			}
			if w.options.Key != "k" {
				watches = api.OK
			}
			w.Links = nil
			is(t, "who asks", w.Ask("ann"), asks)
			w.Links = all
			is(t, "who watches", w.watch(), watches)
			is(t, "both", w.Ask("ann"), max(asks, watches))
			is(t, "both, of no identity", w.Ask("Ann"), api.ErrForm)
		}
	}
	// Of one who isn't there only the auditor has anything to say.
	w := grown(t, o, Bury)
	w.options.Retain = 9
	is(t, "Ask", w.Ask("nobody"), api.ErrProof)
	w.options.Retain = 0
	is(t, "Ask", w.Ask("nobody"), api.ErrArg)
}
