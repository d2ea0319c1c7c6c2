// Package cursor is layer 1: bytes, read and written within their bounds.
package cursor

import (
	"guerite/api"
)

// trouble tells whether a reader or a writer has failed; it never gets over it.
type trouble struct {
	failed bool
}

func (t *trouble) fail() {
	t.failed = true
}

// Reader stands somewhere in bytes.
type Reader struct {
	trouble
	ahead string // empty once it has failed, so that nothing is left
}

// Read is a reader at the beginning of bytes.
func Read(s string) *Reader {
	return &Reader{ahead: s}
}

// Ok tells whether a reader hasn't failed.
func (r *Reader) Ok() bool {
	return r != nil && !r.failed
}

// Left is how many bytes are left.
func (r *Reader) Left() int {
	if r == nil {
		return 0
	}
	return len(r.ahead)
}

// Take is so many bytes.
func (r *Reader) Take(n int) string {
	if r == nil {
		return ""
	}
	if n < 0 || n > len(r.ahead) {
		r.fail()
		r.ahead = ""
		return ""
	}
	s := r.ahead[:n]
	r.ahead = r.ahead[n:]
	return s
}

// number is the number that so many bytes make, the highest first.
func (r *Reader) number(size int) uint32 {
	n := uint32(0)
	s := r.Take(size)
	for i := range len(s) {
		n = n<<8 | uint32(s[i])
	}
	return n
}

// Byte is one byte.
func (r *Reader) Byte() int {
	return int(r.number(1))
}

// Short is two bytes.
func (r *Reader) Short() int {
	return int(r.number(2))
}

// Word is four bytes.
func (r *Reader) Word() uint32 {
	return r.number(4)
}

// Rest is all that is left.
func (r *Reader) Rest() string {
	return r.Take(r.Left())
}

// Writer writes bytes.
type Writer struct {
	trouble
	written []byte
}

// add keeps at most one byte more than Done answers: what is behind that can't be told from it.
func (w *Writer) add(s string) {
	room := api.MaxBytes + 1 - len(w.written)
	w.written = append(w.written, s[:min(len(s), room)]...)
}

func (w *Writer) number(n uint32, size int) {
	b := [4]byte{byte(n >> 24), byte(n >> 16), byte(n >> 8), byte(n)}
	w.add(string(b[4-size:]))
}

// numbers goes on looking for mistakes behind MaxBytes: Done tells of these first.
func (w *Writer) numbers(size, most int, l []int) *Writer {
	if w == nil || w.failed {
		return w
	}
	for _, n := range l {
		if n < 0 || n > most {
			w.fail()
			w.written = nil
			return w
		}
		w.number(uint32(n), size)
	}
	return w
}

// Byte writes bytes.
func (w *Writer) Byte(l ...int) *Writer {
	return w.numbers(1, 255, l)
}

// Short writes shorts.
func (w *Writer) Short(l ...int) *Writer {
	return w.numbers(2, 65535, l)
}

// Word writes words.
func (w *Writer) Word(l ...uint32) *Writer {
	if w == nil || w.failed {
		return w
	}
	for _, n := range l {
		w.number(n, 4)
	}
	return w
}

// Text writes texts.
func (w *Writer) Text(l ...string) *Writer {
	if w == nil || w.failed {
		return w
	}
	for _, s := range l {
		w.add(s)
	}
	return w
}

// Done is what was written.
func (w *Writer) Done() (string, api.Errno) {
	if w == nil || w.failed {
		return "", api.ErrArg
	}
	if len(w.written) > api.MaxBytes {
		return "", api.ErrLong
	}
	return string(w.written), api.OK
}
