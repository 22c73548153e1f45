package script_test

import (
	"slices"
	"testing"

	"chirograph/api"
	"chirograph/book"
	"chirograph/name"
	"chirograph/script"
)

// till plays steps up to the one at which the disk dies: its place, or how many there are.
func (g *play) till(t *testing.T, l []script.Step) int {
	t.Helper()
	for i, s := range l {
		p, want := g.p.do(g.o, s)
		r := g.Do(s)
		if r.Err == api.ErrDead {
			same(t, s, r, script.Result{Err: api.ErrDead})
			return i
		}
		same(t, s, r, want)
		g.p = p
		g.tells(s, r.Err)
	}
	return len(l)
}

// crashes behind a step that died: did it come to be? By its epoch there is which of both, and of that one all.
func (g *play) crashes(t *testing.T, died script.Step, keeps []int) bool {
	t.Helper()
	is(t, "Ask", g.Ask("ann"), api.ErrDead)
	crash := script.Step{Kind: script.Crash, Keeps: keeps}
	same(t, crash, g.Do(crash), script.Result{})
	behind, _ := g.p.do(g.o, died)
	next := publish()
	r := g.Do(next)
	is(t, "Publish", r.Err, api.OK)
	g.tells(next, r.Err)
	came := r.Epoch == behind.epoch+1 && behind.epoch > g.p.epoch
	if came {
		g.p = behind
	}
	if g.p.epoch++; r.Epoch != g.p.epoch {
		t.Fatalf("epoch %d instead of %d", r.Epoch, g.p.epoch)
	}
	g.has(t)
	return came
}

// P23.4, P23.2: at whichever deed the disk dies, and whatever is kept of what isn't sure: behind the crash there is what was answered ahead, or also what the one call that died would have made of it, whole; and it goes on.
func TestEveryDeath(t *testing.T) {
	came, not := map[int]int{}, map[int]int{}
	for seed := range 12 {
		r := dice(seed)
		var steps []script.Step
		for range 4 {
			steps = append(steps, r.step())
		}
		steps = append(steps, publish(book.Update{Id: "ann", Value: "1"}, book.Update{Id: "z", Value: "1"}), publish(book.Update{Id: "z", Value: "2"}, book.Update{Id: "ann", Value: "2"}), script.Step{Kind: script.Bury}, script.Step{Kind: script.Drop}, script.Step{Kind: script.Whole})
		for deed := 0; ; deed++ {
			g := began(t, options(1, seed%2)[seed%3], 1<<20)
			g.Do(script.Step{Kind: script.Arm, N: deed})
			at := g.till(t, steps)
			if at == len(steps) {
				break
			}
			if g.crashes(t, steps[at], [][]int{nil, {-1}, {7}, {3, -2}}[(seed/3+deed)%4]) {
				came[steps[at].Kind]++
			} else {
				not[steps[at].Kind]++
			}
			g.till(t, steps)
			g.has(t)
		}
	}
	for kind := script.Publish; kind <= script.Drop; kind++ {
		if came[kind] < 5 || not[kind] < 5 {
			t.Errorf("kind %d came %d times, and didn't %d times", kind, came[kind], not[kind])
		}
	}
	if came[script.Whole] > 0 || not[script.Whole] < 5 {
		t.Errorf("Whole died %d times", not[script.Whole])
	}
}

// P23.4, P23.2: many deaths, one behind the other, of one directory, and crashes of a disk that lives.
func TestManyDeaths(t *testing.T) {
	deaths, swallowed := 0, 0
	for seed := range 24 {
		r := dice(seed)
		g := began(t, options(1+seed%2, seed%3)[seed%3], 1<<22)
		for range 12 {
			var steps []script.Step
			for range 6 {
				steps = append(steps, r.step())
			}
			keeps := []int{r.roll(60) - 30, r.roll(400), -1}[:r.roll(4)]
			g.Do(script.Step{Kind: script.Arm, N: r.roll(25)})
			at := g.till(t, steps)
			if at < len(steps) {
				deaths++
				if g.crashes(t, steps[at], keeps) {
					swallowed++
				}
				continue
			}
			crash := script.Step{Kind: script.Crash, Keeps: keeps}
			same(t, crash, g.Do(crash), script.Result{})
			g.has(t)
		}
		if len(g.Links) > g.p.epoch {
			t.Fatalf("%d links, %d epochs", len(g.Links), g.p.epoch)
		}
		g.settle(t)
		g.bounded(t)
	}
	if deaths < 100 || swallowed < 20 {
		t.Errorf("%d deaths, %d swallowed answers", deaths, swallowed)
	}
}

// P23.4: of what isn't sure any beginning is kept: then the epoch is there whole, or not at all.
func TestTorn(t *testing.T) {
	came := 0
	for keep := range 600 {
		g := began(t, options(1, 0)[2], 1<<20)
		g.does(t, publish(book.Update{Id: "ann", Value: "x"}))
		g.Do(script.Step{Kind: script.Arm, N: 1})
		s := publish(book.Update{Id: "ann", Value: "y"}, book.Update{Id: "bob", Value: "z"})
		if g.till(t, []script.Step{s}) != 0 {
			t.Fatal("it lives")
		}
		if g.crashes(t, s, []int{keep}) {
			came++
		}
	}
	// Only where all of it was kept, by a number that counts anew from 0 on.
	if came == 0 || came > 2 {
		t.Errorf("%d of 600 are there", came)
	}
}

// P23.2: THE WHOLE: whatever the script, on disks of any room, Ask of any identity tells nothing but that the disk died, or why it isn't one.
func TestWhole(t *testing.T) {
	count := map[api.Errno]int{}
	for seed := range 90 {
		r := dice(seed)
		g := began(t, options(1+seed%3, seed%2)[seed%3], []int{0, 400, 1000, 3000, 9000, 1 << 20}[seed%6])
		for range 50 {
			g.Do(r.any())
			dead := g.Do(script.Step{Kind: script.Lookup, Id: "nobody"}).Err == api.ErrDead
			for _, id := range []string{"ann", "nobody", "", "яя", "Яя"}[r.roll(5):] {
				_, want := name.Check(id)
				if dead {
					want = api.ErrDead
				}
				is(t, "Ask", g.Ask(id), want)
				count[want]++
			}
		}
	}
	for _, e := range []api.Errno{api.OK, api.ErrEnd, api.ErrForm, api.ErrDead} {
		if count[e] < 100 {
			t.Errorf("%d but %d times: %v", e, count[e], count)
		}
	}
}

// P23.1, P23.2: on a full disk a change answers ErrFull, and nothing has changed.
func TestFull(t *testing.T) {
	full := map[int]int{}
	for seed := range 60 {
		r := dice(seed)
		g := began(t, options(1, 0)[seed%3], 300+170*seed)
		for range 25 {
			s := r.step()
			p, want := g.p.do(g.o, s)
			x := g.Do(s)
			if x.Err == api.ErrFull {
				same(t, s, x, script.Result{Err: api.ErrFull})
				full[s.Kind]++
				is(t, "Ask", g.Ask("ann"), api.OK)
				continue
			}
			same(t, s, x, want)
			g.p = p
			g.tells(s, x.Err)
		}
		g.has(t)
		crash := script.Step{Kind: script.Crash}
		same(t, crash, g.Do(crash), script.Result{})
		g.has(t)
	}
	for _, kind := range []int{script.Publish, script.Bury, script.Drop, script.Whole} {
		if full[kind] < 3 {
			t.Errorf("kind %d but %d times", kind, full[kind])
		}
	}
	if kinds := []int{script.Open, script.Lookup, script.Version, script.History}; slices.ContainsFunc(kinds, func(k int) bool { return full[k] > 0 }) {
		t.Errorf("%v", full)
	}
}
