package step_test

import (
	"math"
	"slices"
	"testing"

	"chirograph/api"
	"chirograph/label"
	"chirograph/node"
	"chirograph/step"
)

// P19.3: which steps insert, whatever stays.
func TestInserts(t *testing.T) {
	a, b, c, d := at(api.Label{0x20}), at(api.Label{0x30}), node.Leaf{Label: api.Label{1}, At: 7}, node.Leaf{Label: api.Label{2}, At: 7}
	turned, later, other := a, a, a
	turned.Value[31]++
	later.At++
	other.Label[31]++
	part := []node.Item{over(api.Label{0xf0}, 4)}
	for i, x := range []struct {
		old, fresh []node.Leaf
		epoch      int
		want       bool
	}{
		{nil, nil, 7, true}, {nil, []node.Leaf{c}, 7, true}, {nil, []node.Leaf{c}, 6, false}, {nil, []node.Leaf{c}, 8, false}, {nil, []node.Leaf{c, d}, 7, true}, {nil, []node.Leaf{c, a}, 7, false}, {nil, []node.Leaf{a, c}, 7, false},
		// What was stands there again, as it was, whatever its epoch.
		{[]node.Leaf{a}, nil, 7, false}, {[]node.Leaf{a}, []node.Leaf{a}, 7, true}, {[]node.Leaf{a}, []node.Leaf{c}, 7, false}, {[]node.Leaf{a}, []node.Leaf{c, a, d}, 7, true}, {[]node.Leaf{a, b}, []node.Leaf{b, c, a}, 7, true},
		{[]node.Leaf{a, b}, []node.Leaf{a, c}, 7, false}, {[]node.Leaf{b, a}, []node.Leaf{a, c}, 7, false}, {[]node.Leaf{a}, []node.Leaf{a, b}, 7, false}, {[]node.Leaf{a}, []node.Leaf{turned, c}, 7, false}, {[]node.Leaf{a}, []node.Leaf{later, c}, 7, false},
		{[]node.Leaf{a}, []node.Leaf{later}, later.At, false}, {[]node.Leaf{a}, []node.Leaf{turned}, a.At, false}, {[]node.Leaf{a}, []node.Leaf{other}, a.At, false}, {[]node.Leaf{a}, []node.Leaf{a, turned}, a.At, true}, {[]node.Leaf{a}, []node.Leaf{a, later}, a.At, false},
		// Several times.
		{[]node.Leaf{a, a}, []node.Leaf{a}, 7, true}, {[]node.Leaf{a}, []node.Leaf{a, a, c, c}, 7, true}, {nil, []node.Leaf{c, c}, 7, true},
		{nil, []node.Leaf{{}}, 0, true}, {nil, []node.Leaf{{At: 1 << 30}}, 1 << 30, true}, {nil, []node.Leaf{{At: math.MinInt}}, 0, false},
	} {
		for _, same := range [][]node.Item{nil, part} {
			if is := step.Inserts(step.Step{Same: same, Old: x.old, New: x.fresh}, x.epoch); is != x.want {
				t.Errorf("%d: %v", i, is)
			}
		}
	}
}

// told are the leaves of a seed: the fresh one of this value and epoch, and the stale one.
func told(seed, value api.Label, at, superseded int) []node.Leaf {
	return []node.Leaf{{Label: label.Fresh(seed), Value: value, At: at}, {Label: label.Stale(seed), Value: label.Mark(), At: superseded}}
}

// buried is a step that buries seeds that were superseded by epochs 3, 4 ..
func buried(seeds ...api.Label) step.Step {
	s := step.Step{Same: []node.Item{over(api.Label{0xf0}, 4)}}
	for i, seed := range seeds {
		s.Old = append(s.Old, told(seed, api.Label{1, byte(i)}, i+2, i+3)...)
		s.New = append(s.New, told(seed, label.Tomb(), i+2, i+3)...)
	}
	return s
}

// dropped is a step that drops seeds that were superseded by epochs 3, 4 ..
func dropped(seeds ...api.Label) step.Step {
	return step.Step{Same: []node.Item{over(api.Label{0xf0}, 4)}, Old: buried(seeds...).New}
}

// P19.3: what buries, and what drops, does: of any seeds, in any order, from the age on that all have.
func TestBuriesDrops(t *testing.T) {
	seeds := []api.Label{{1}, {2}, {3}}
	for n := range 4 {
		s, d := buried(seeds[:n]...), dropped(seeds[:n]...)
		for turn := range 3 {
			for epoch := range 12 {
				for age := range 12 {
					want := n == 0 || epoch-(n+2) >= age
					if step.Buries(s, seeds[:n], epoch, age) != want || step.Drops(d, seeds[:n], epoch, age) != want {
						t.Fatalf("%d seeds, epoch %d, age %d", n, epoch, age)
					}
				}
			}
			if step.Buries(d, seeds[:n], 9, 1) != (n == 0) || step.Drops(s, seeds[:n], 9, 1) != (n == 0) {
				t.Fatalf("%d seeds, the other step", n)
			}
			for _, l := range [][]node.Leaf{s.Old, s.New, d.Old} {
				slices.Reverse(l)
				if len(l) > 0 && turn == 1 {
					l[0], l[1] = l[1], l[0]
				}
			}
		}
	}
	if !step.Buries(step.Step{}, nil, 0, 0) || !step.Drops(step.Step{}, nil, 0, 0) {
		t.Error("of no seeds")
	}
}

// P19.3: the edges of epochs and ages.
func TestAges(t *testing.T) {
	seed := []api.Label{{1}}
	for _, x := range []struct {
		superseded, epoch, age int
		want                   bool
	}{
		{0, 0, 0, true}, {1, 0, 0, false}, {5, 5, 0, true}, {5, 6, 1, true}, {5, 6, 2, false}, {5, 4, 0, false}, {0, 1 << 30, 1 << 30, true}, {1, 1 << 30, 1 << 30, false}, {1 << 30, 1 << 30, 0, true}, {1 << 30, 1 << 30, 1, false},
		{1 << 30, 0, 0, false}, {1 << 30, 0, 1 << 30, false}, {0, 0, 1 << 30, false}, {-1, 0, 1, true}, {-2, 0, 3, false}, {math.MinInt, 0, 1 << 30, true}, {math.MinInt, 1 << 30, 0, true}, {math.MaxInt, 1 << 30, 0, false}, {math.MaxInt, 0, 1 << 30, false},
	} {
		s := step.Step{Old: told(seed[0], api.Label{1}, 2, x.superseded), New: told(seed[0], label.Tomb(), 2, x.superseded)}
		if is := step.Buries(s, seed, x.epoch, x.age); is != x.want {
			t.Errorf("Buries %v: %v", x, is)
		}
		if is := step.Drops(step.Step{Old: s.New}, seed, x.epoch, x.age); is != x.want {
			t.Errorf("Drops %v: %v", x, is)
		}
	}
}

// P19.3: each thing that a burial may not do.
func TestBuriesNot(t *testing.T) {
	seeds := []api.Label{{1}, {2}}
	for i, spoil := range []func(*step.Step) []api.Label{
		// The seeds: one more, one less, another one, one twice.
		func(s *step.Step) []api.Label { return nil },
		func(s *step.Step) []api.Label { return seeds[:1] },
		func(s *step.Step) []api.Label { return []api.Label{{1}, {2}, {3}} },
		func(s *step.Step) []api.Label { return []api.Label{{1}, {3}} },
		func(s *step.Step) []api.Label { return []api.Label{{1}, {1}} },
		func(s *step.Step) []api.Label { return []api.Label{{1}, {2}, {2}} },
		func(s *step.Step) []api.Label { *s = buried(api.Label{1}, api.Label{1}); return []api.Label{{1}, {1}} },
		// How many leaves.
		func(s *step.Step) []api.Label { s.Old = s.Old[:3]; return seeds },
		func(s *step.Step) []api.Label { s.New = s.New[1:]; return seeds },
		func(s *step.Step) []api.Label { s.Old = append(s.Old, s.Old[0]); return seeds },
		func(s *step.Step) []api.Label { s.New = append(s.New, s.New[3]); return seeds },
		func(s *step.Step) []api.Label { s.Old, s.New = nil, nil; return seeds },
		// Which ones: another one in the place of each, or one twice.
		func(s *step.Step) []api.Label { s.Old[0].Label[0]++; s.New[0].Label[0]++; return seeds },
		func(s *step.Step) []api.Label { s.Old[3].Label[0]++; s.New[3].Label[0]++; return seeds },
		func(s *step.Step) []api.Label { s.Old[2].Label[31]++; return seeds },
		func(s *step.Step) []api.Label { s.New[1].Label[31]++; return seeds },
		func(s *step.Step) []api.Label { s.Old[0], s.New[0] = s.Old[1], s.New[1]; return seeds },
		func(s *step.Step) []api.Label { s.Old[3], s.New[3] = s.Old[2], s.New[2]; return seeds },
		func(s *step.Step) []api.Label { s.Old[1] = s.Old[0]; return seeds },
		func(s *step.Step) []api.Label { s.New[2] = s.New[1]; return seeds },
		// The stale one.
		func(s *step.Step) []api.Label { s.Old[1].At--; return seeds },
		func(s *step.Step) []api.Label { s.New[3].At--; return seeds },
		func(s *step.Step) []api.Label { s.New[1].Value[0]++; return seeds },
		func(s *step.Step) []api.Label { s.Old[1].Value[0]++; return seeds },
		func(s *step.Step) []api.Label {
			s.Old[3].Value, s.New[3].Value = api.Label{}, api.Label{}
			return seeds
		},
		func(s *step.Step) []api.Label {
			s.Old[1].Value, s.New[1].Value = label.Tomb(), label.Tomb()
			return seeds
		},
		func(s *step.Step) []api.Label { s.Old[1].At, s.New[1].At = 5, 5; return seeds },
		func(s *step.Step) []api.Label { s.Old[3].At, s.New[3].At = 5, 5; return seeds },
		// The fresh one.
		func(s *step.Step) []api.Label { s.Old[0].At--; return seeds },
		func(s *step.Step) []api.Label { s.New[2].At++; return seeds },
		func(s *step.Step) []api.Label { s.New[0].Value = s.Old[0].Value; return seeds },
		func(s *step.Step) []api.Label { s.New[2].Value = label.Mark(); return seeds },
		func(s *step.Step) []api.Label { s.Old[0].Value = label.Tomb(); return seeds },
		func(s *step.Step) []api.Label { s.Old, s.New = s.New, s.Old; return seeds },
		// Nothing but a drop, or a return.
		func(s *step.Step) []api.Label { s.New = nil; return seeds },
		func(s *step.Step) []api.Label { s.Old = nil; return seeds },
	} {
		s := buried(seeds...)
		if !step.Buries(s, seeds, 9, 5) {
			t.Fatal("buried")
		}
		if l := spoil(&s); step.Buries(s, l, 9, 5) {
			t.Errorf("%d: %v", i, s)
		}
	}
}

// P19.3: what a burial may do all the same.
func TestBuriesFree(t *testing.T) {
	seeds := []api.Label{{1}, {2}}
	for i, alter := range []func(*step.Step){
		func(s *step.Step) { s.Same = nil },
		func(s *step.Step) { s.Same = append(s.Same, node.Item{At: -1}) },
		func(s *step.Step) { s.Old[0].Value = api.Label{} },
		func(s *step.Step) { s.Old[0].Value = label.Mark() },
		func(s *step.Step) { s.Old[0].At, s.New[0].At = 77, 77 },
		func(s *step.Step) { s.Old[1].At, s.New[1].At = 0, 0 },
	} {
		s := buried(seeds...)
		alter(&s)
		if !step.Buries(s, seeds, 9, 5) || !step.Buries(s, []api.Label{{2}, {1}}, 9, 5) {
			t.Errorf("%d: %v", i, s)
		}
	}
}

// P19.3: each thing that a drop may not do, and what it may.
func TestDropsNot(t *testing.T) {
	seeds := []api.Label{{1}, {2}}
	for i, spoil := range []func(*step.Step) []api.Label{
		func(s *step.Step) []api.Label { return nil },
		func(s *step.Step) []api.Label { return seeds[1:] },
		func(s *step.Step) []api.Label { return []api.Label{{1}, {2}, {3}} },
		func(s *step.Step) []api.Label { return []api.Label{{4}, {2}} },
		func(s *step.Step) []api.Label { return []api.Label{{2}, {2}} },
		func(s *step.Step) []api.Label { *s = dropped(api.Label{1}, api.Label{1}); return []api.Label{{1}, {1}} },
		func(s *step.Step) []api.Label { s.Old = s.Old[:3]; return seeds },
		func(s *step.Step) []api.Label { s.Old = append(s.Old, s.Old[1]); return seeds },
		func(s *step.Step) []api.Label { s.Old = nil; return seeds },
		func(s *step.Step) []api.Label { s.New = s.Old[:1]; return seeds },
		func(s *step.Step) []api.Label { s.New = s.Old; return seeds },
		func(s *step.Step) []api.Label { s.New = []node.Leaf{{}}; return seeds },
		func(s *step.Step) []api.Label { s.Old[0].Label[0]++; return seeds },
		func(s *step.Step) []api.Label { s.Old[3].Label[31]++; return seeds },
		func(s *step.Step) []api.Label { s.Old[0] = s.Old[1]; return seeds },
		func(s *step.Step) []api.Label { s.Old[3] = s.Old[2]; return seeds },
		func(s *step.Step) []api.Label { s.Old[1].Value[0]++; return seeds },
		func(s *step.Step) []api.Label { s.Old[1].Value = label.Tomb(); return seeds },
		func(s *step.Step) []api.Label { s.Old[1].At = 5; return seeds },
		func(s *step.Step) []api.Label { s.Old[3].At = 5; return seeds },
		func(s *step.Step) []api.Label { s.Old[0].Value = api.Label{1}; return seeds },
		func(s *step.Step) []api.Label { s.Old[2].Value = label.Mark(); return seeds },
	} {
		s := dropped(seeds...)
		if !step.Drops(s, seeds, 9, 5) || !step.Drops(s, []api.Label{{2}, {1}}, 9, 5) {
			t.Fatal("dropped")
		}
		s.Old[0].At, s.Old[2].At = 77, 0
		if !step.Drops(s, seeds, 9, 5) {
			t.Fatal("dropped")
		}
		if l := spoil(&s); step.Drops(s, l, 9, 5) {
			t.Errorf("%d: %v", i, s)
		}
	}
}

// P19.3: of a label that stands several times its first leaf counts; here beside others that aren't any of its seed's.
func TestFirstLeaf(t *testing.T) {
	seeds := []api.Label{{1}, {2}}
	// Four leaves, of which one stands twice: whichever is first, another one is wanting.
	for i := range 4 {
		for j := range 4 {
			s, d := buried(seeds...), dropped(seeds...)
			s.Old[i], s.New[i], d.Old[i] = s.Old[j], s.New[j], d.Old[j]
			if step.Buries(s, seeds, 9, 5) != (i == j) || step.Drops(d, seeds, 9, 5) != (i == j) {
				t.Errorf("%d, %d", i, j)
			}
		}
	}
}
