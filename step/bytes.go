package step

import (
	"chirograph/api"
	"chirograph/code"
	"chirograph/node"
	"chirograph/patch"
)

// Bytes: of a step.
func Bytes(s Step) (string, api.Errno) {
	if len(s.Same) > patch.MaxItems || len(s.Old) > MaxLeaves || len(s.New) > MaxLeaves {
		return "", api.ErrBig
	}
	var w code.Writer
	for _, e := range []api.Errno{
		writeAll(&w, s.Same, itemFault, writeItem),
		writeAll(&w, s.Old, leafFault, writeLeaf),
		writeAll(&w, s.New, leafFault, writeLeaf),
	} {
		if e != api.OK {
			return "", e
		}
	}
	return w.Done()
}

// Read: the step of bytes.
func Read(b string) (Step, api.Errno) {
	r := code.Open(b)
	same, e := readAll(r, patch.MaxItems, readItem, itemFault)
	if e != api.OK {
		return Step{}, e
	}
	old, e := readAll(r, MaxLeaves, readLeaf, leafFault)
	if e != api.OK {
		return Step{}, e
	}
	fresh, e := readAll(r, MaxLeaves, readLeaf, leafFault)
	if e != api.OK {
		return Step{}, e
	}
	if e := r.Done(); e != api.OK {
		return Step{}, e
	}
	return Step{Same: same, Old: old, New: fresh}, api.OK
}

// writeAll: a list of things that have no fault, as readAll takes it.
func writeAll[T any](w *code.Writer, l []T, fault func(T) api.Errno, write func(*code.Writer, T)) api.Errno {
	w.Number(len(l))
	for _, x := range l {
		if e := fault(x); e != api.OK {
			return e
		}
		write(w, x)
	}
	return api.OK
}

// readAll: a list of so many things at most; one's fault is told ahead of what stands behind it.
func readAll[T any](r *code.Reader, most int, read func(*code.Reader) T, fault func(T) api.Errno) ([]T, api.Errno) {
	var l []T
	for range r.Below(most + 1) {
		x := read(r)
		// Done's ErrForm would be but that bytes are left, as they may be here.
		if e := r.Done(); e != api.OK && e != api.ErrForm {
			return nil, e
		}
		if e := fault(x); e != api.OK {
			return nil, e
		}
		l = append(l, x)
	}
	return l, api.OK
}

func itemFault(x node.Item) api.Errno {
	if !node.Good(x) {
		return api.ErrArg
	}
	return api.OK
}

func leafFault(l node.Leaf) api.Errno {
	return node.Check(l)
}

func writeItem(w *code.Writer, x node.Item) {
	w.Number(x.Prefix.Len)
	w.Label(x.Prefix.Bits)
	w.Label(x.Sum)
	w.Number(x.At)
}

func readItem(r *code.Reader) node.Item {
	var x node.Item
	x.Prefix.Len = r.Number()
	x.Prefix.Bits = r.Label()
	x.Sum = r.Label()
	x.At = r.Number()
	return x
}

func writeLeaf(w *code.Writer, l node.Leaf) {
	w.Label(l.Label)
	w.Label(l.Value)
	w.Number(l.At)
}

func readLeaf(r *code.Reader) node.Leaf {
	label, value := r.Label(), r.Label()
	return node.Leaf{Label: label, Value: value, At: r.Number()}
}
