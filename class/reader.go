package class

import (
	"loom/api"
	"loom/wire"
)

// reader keeps the first error, and behind it reads nothing but zeros: so it is asked for once, at the end.
type reader struct {
	from *wire.Reader
	err  api.Errno
}

func open(b []byte) *reader { return &reader{from: wire.Open(b)} }

// fail keeps err, unless another one came ahead of it.
func (r *reader) fail(err api.Errno) {
	if r.err == api.OK {
		r.err = err
	}
}

// end: nothing may be left.
func (r *reader) end() {
	if r.from.Left() > 0 {
		r.fail(api.ErrForm)
	}
}

func (r *reader) byte() byte { return take(r, r.from.Byte) }

func (r *reader) int() int64 { return take(r, r.from.Int) }

func (r *reader) cplx() complex128 { return take(r, r.from.Cplx) }

func (r *reader) text(most int) string {
	return take(r, func() (string, api.Errno) { return r.from.Text(most) })
}

func (r *reader) count(most int) int {
	return take(r, func() (int, api.Errno) { return r.from.Count(most) })
}

// name reads a text of a name's length; whether it is one, Check tells.
func (r *reader) name() string { return r.text(api.MaxName) }

// flag reads a byte 1 or 0.
func (r *reader) flag() bool {
	b := r.byte()
	if b > 1 {
		r.fail(api.ErrForm)
	}
	return b == 1
}

func take[T any](r *reader, read func() (T, api.Errno)) T {
	if r.err != api.OK {
		var zero T
		return zero
	}
	// Beside an error, what is read is zero.
	one, err := read()
	r.fail(err)
	return one
}
