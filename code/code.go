// Package code is layer 2: see shared/doc/02-code.md.
package code

import (
	"math"
	"math/bits"
	"strings"

	"chirograph/api"
)

// maxSize is the most bytes that a number has behind its first one.
const maxSize = 8

// Writer gathers bytes; the zero Writer has none.
type Writer struct {
	bytes []byte
	err   api.Errno
}

// Number: a number that isn't below 0: its size in bytes, and these, the highest first.
func (w *Writer) Number(n int) {
	if n < 0 {
		w.fail(api.ErrArg)
		return
	}
	size := (bits.Len64(uint64(n)) + 7) / 8
	b := [1 + maxSize]byte{byte(size)}
	for i := range size {
		b[size-i] = byte(n >> (8 * i))
	}
	w.add(string(b[:1+size]))
}

// Text: its length, and its bytes.
func (w *Writer) Text(s string) {
	if len(s) > api.MaxText {
		w.fail(api.ErrBig)
		return
	}
	w.Number(len(s))
	w.add(s)
}

// Label: its bytes.
func (w *Writer) Label(l api.Label) {
	w.add(string(l[:]))
}

// Flag: 0 or 1.
func (w *Writer) Flag(is bool) {
	if is {
		w.add("\x01")
	} else {
		w.add("\x00")
	}
}

// Done: what was gathered, or the first error.
func (w *Writer) Done() (string, api.Errno) {
	if w.err != api.OK {
		return "", w.err
	}
	if len(w.bytes) > api.MaxText {
		return "", api.ErrBig
	}
	return string(w.bytes), api.OK
}

// add puts bytes behind the others. Behind an error, or above the limit, no
// bytes will be told any more: then they needn't be kept.
func (w *Writer) add(s string) {
	if w.err == api.OK && len(w.bytes) <= api.MaxText {
		w.bytes = append(w.bytes, s...)
	}
}

func (w *Writer) fail(e api.Errno) {
	if w.err == api.OK {
		w.err = e
	}
	w.bytes = nil
}

// Reader takes bytes, one thing behind the other; behind an error all is zero.
type Reader struct {
	rest string
	err  api.Errno
}

// Open: a reader of a text.
func Open(s string) *Reader {
	r := &Reader{rest: s}
	if len(s) > api.MaxText {
		r.err = api.ErrBig
	}
	return r
}

// Number: as Writer's.
func (r *Reader) Number() int {
	s := r.take(r.octet(maxSize))
	if s == "" {
		return 0
	}
	var n uint64
	for i := range len(s) {
		n = n<<8 | uint64(s[i])
	}
	// A first byte of 0 would be a second spelling of the number.
	if s[0] == 0 || n > math.MaxInt {
		r.err = api.ErrText
		return 0
	}
	return int(n)
}

// Below: a number that is less than another one.
func (r *Reader) Below(most int) int {
	n := r.Number()
	if r.err == api.OK && n >= most {
		r.err = api.ErrBig
		return 0
	}
	return n
}

// Text: as Writer's.
func (r *Reader) Text() string {
	// A copy: a short text mustn't hold on to all that was read.
	return strings.Clone(r.take(r.Below(api.MaxText + 1)))
}

// Label: as Writer's.
func (r *Reader) Label() api.Label {
	var l api.Label
	copy(l[:], r.take(len(l)))
	return l
}

// Flag: as Writer's.
func (r *Reader) Flag() bool {
	return r.octet(1) == 1
}

// Left: how many bytes weren't taken.
func (r *Reader) Left() int {
	return len(r.rest)
}

// Done: the first error; ErrForm: bytes are left.
func (r *Reader) Done() api.Errno {
	if r.err == api.OK && r.rest != "" {
		return api.ErrForm
	}
	return r.err
}

// take: the next n bytes; if they aren't all there, none is taken.
func (r *Reader) take(n int) string {
	if r.err != api.OK {
		return ""
	}
	if n > len(r.rest) {
		r.err = api.ErrEnd
		return ""
	}
	s := r.rest[:n]
	r.rest = r.rest[n:]
	return s
}

// octet: the next byte, which mustn't be above another one.
func (r *Reader) octet(most int) int {
	s := r.take(1)
	if s == "" {
		return 0
	}
	if int(s[0]) > most {
		r.err = api.ErrText
		return 0
	}
	return int(s[0])
}
