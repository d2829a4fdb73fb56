// Package octets is layer 1: see shared/doc/01-octets.md.
package octets

import (
	"bytes"

	"quidnunc/api"
)

const (
	maxWidth = 8   // bytes of a number
	maxText  = 255 // bytes of a text: one byte says how many
)

// fault is a first error. Later ones don't take its place: they may be no more than what came of it.
type fault struct {
	code api.Errno
}

// Fail says that something is wrong.
func (f *fault) Fail(e api.Errno) {
	if f.code == api.OK {
		f.code = e
	}
}

// Err gives the first error.
func (f *fault) Err() api.Errno { return f.code }

// isWidth tells whether a number may have so many bytes.
func isWidth(width int) bool { return width >= 1 && width <= maxWidth }

// Writer puts numbers and texts one behind the other.
type Writer struct {
	first fault // not embedded: nobody but the writer itself says that it failed
	put   []byte
}

// Number puts a number's lowest bytes.
func (w *Writer) Number(v uint64, width int) *Writer {
	switch {
	case !isWidth(width):
		w.first.Fail(api.ErrArg)
	case v>>(8*width) != 0:
		w.first.Fail(api.ErrRange)
	default:
		low := lowestFirst(v)
		w.Raw(low[:width:width])
	}
	return w
}

// lowestFirst gives all bytes of a number.
func lowestFirst(v uint64) [maxWidth]byte {
	var all [maxWidth]byte
	for i := range all {
		all[i] = byte(v >> (8 * i))
	}
	return all
}

// Flag puts a yes or a no.
func (w *Writer) Flag(b bool) *Writer {
	if b {
		return w.Number(1, 1)
	}
	return w.Number(0, 1)
}

// Text puts a text, how long it is ahead.
func (w *Writer) Text(s string) *Writer {
	if len(s) > maxText {
		w.first.Fail(api.ErrRange)
		return w
	}
	return w.Raw([]byte{byte(len(s))}, []byte(s))
}

// Raw puts bytes as they are.
func (w *Writer) Raw(parts ...[]byte) *Writer {
	if w.Err() != api.OK {
		return w
	}
	for _, p := range parts {
		w.put = append(w.put, p...)
	}
	return w
}

// Bytes gives what was put.
func (w *Writer) Bytes() []byte { return bytes.Clone(w.put) }

// Err gives the first error.
func (w *Writer) Err() api.Errno { return w.first.Err() }

// Reader takes numbers and texts from bytes.
type Reader struct {
	fault
	rest []byte
}

// Read gives a reader of bytes.
func Read(b []byte) *Reader { return &Reader{rest: bytes.Clone(b)} }

// Number takes a number.
func (r *Reader) Number(width int) uint64 {
	if !isWidth(width) {
		r.Fail(api.ErrArg)
		return 0
	}
	taken, _ := r.take(width)
	var v uint64
	for i, b := range taken {
		v |= uint64(b) << (8 * i)
	}
	return v
}

// Flag takes a yes or a no.
func (r *Reader) Flag() bool {
	b, ok := r.peek()
	if !ok {
		return false
	}
	if b > 1 {
		r.Fail(api.ErrForm)
		return false
	}
	r.take(1)
	return b == 1
}

// Text takes a text.
func (r *Reader) Text(most int) string {
	n, ok := r.peek()
	if !ok {
		return ""
	}
	if int(n) > most {
		r.Fail(api.ErrForm)
		return ""
	}
	// How long it is and the text are taken at once, so that beside an error neither is.
	taken, ok := r.take(1 + int(n))
	if !ok {
		return ""
	}
	return string(taken[1:])
}

// Raw takes bytes as they are.
func (r *Reader) Raw(n int) []byte {
	if n < 0 {
		r.Fail(api.ErrArg)
		return nil
	}
	taken, _ := r.take(n)
	return bytes.Clone(taken)
}

// peek gives the next byte, and leaves it.
func (r *Reader) peek() (byte, bool) {
	if len(r.rest) == 0 {
		r.Fail(api.ErrShort)
	}
	if r.Err() != api.OK {
		return 0, false
	}
	return r.rest[0], true
}

// take takes so many bytes. They are still the reader's own memory: who hands them on copies them.
func (r *Reader) take(n int) ([]byte, bool) {
	if n > len(r.rest) {
		r.Fail(api.ErrShort)
	}
	if r.Err() != api.OK {
		return nil, false
	}
	taken := r.rest[:n]
	r.rest = r.rest[n:]
	return taken, true
}

// Left gives how many bytes are left.
func (r *Reader) Left() int { return len(r.rest) }

// Done ends the reading: nothing may be left.
func (r *Reader) Done() api.Errno {
	if r.Left() > 0 {
		r.Fail(api.ErrForm)
	}
	return r.Err()
}
