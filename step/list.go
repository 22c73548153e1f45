package step

import (
	"slices"

	"chirograph/api"
	"chirograph/bits"
	"chirograph/node"
)

// labels: of leaves.
func labels(l []node.Leaf) []api.Label {
	var own []api.Label
	for _, x := range l {
		own = append(own, x.Label)
	}
	return own
}

// rising: leaves by rising labels.
func rising(l []node.Leaf) []node.Leaf {
	return slices.SortedStableFunc(slices.Values(l), func(a, b node.Leaf) int { return bits.Order(a.Label, b.Label) })
}

// cut: a list in two: those of which it is so, and the others, in their order.
func cut[T any](l []T, is func(T) bool) (those, others []T) {
	for _, x := range l {
		if is(x) {
			those = append(those, x)
		} else {
			others = append(others, x)
		}
	}
	return those, others
}

// all: is it so of all of a list?
func all[T any](l []T, is func(T) bool) bool {
	return !slices.ContainsFunc(l, func(x T) bool { return !is(x) })
}

// set: the things of a list, each once.
func set[T comparable](l []T) map[T]struct{} {
	once := map[T]struct{}{}
	for _, x := range l {
		once[x] = struct{}{}
	}
	return once
}

// among asks of a thing whether a list has it.
func among[T comparable](l []T) func(T) bool {
	had := set(l)
	return func(x T) bool {
		_, is := had[x]
		return is
	}
}
