package wire

import (
	"bytes"
	"math"

	"loom/api"
)

// Reader holds what isn't read yet.
type Reader struct{ rest []byte }

// Open: a reader of all of b, of which it keeps a copy: b stays the caller's own.
func Open(b []byte) *Reader { return &Reader{rest: bytes.Clone(b)} }

// Uint reads a number of groups; ErrShort or ErrForm, whichever shows first along the bytes.
func (r *Reader) Uint() (uint64, api.Errno) {
	var n uint64
	size := 0
group:
	if size == len(r.rest) {
		return 0, api.ErrShort
	}
	b := r.rest[size]
	n |= uint64(b%more) << (groupBits * size)
	size++
	if size == mostGroups && b != lastOfMost {
		return 0, api.ErrForm
	}
	if b >= more {
		goto group
	}
	if b == 0 && size > 1 {
		// Fewer groups would do: each number has one form alone.
		return 0, api.ErrForm
	}
	r.skip(size)
	return n, api.OK
}

// Int reads a number with its sign folded in.
func (r *Reader) Int() (int64, api.Errno) {
	u, err := r.Uint()
	// Beside an error u is 0, and so is what it unfolds to.
	return unfolded(u), err
}

// Text reads a text of at most most bytes.
func (r *Reader) Text(most int) (string, api.Errno) {
	// The length is read by another reader, so that this one stays where it is if the bytes aren't there.
	ahead := *r
	length, err := ahead.Count(most)
	if err != api.OK {
		return "", err
	}
	if length > ahead.Left() {
		return "", api.ErrShort
	}
	text := string(ahead.rest[:length])
	ahead.skip(length)
	*r = ahead
	return text, api.OK
}

// Cplx reads the bits of a real part and of an imaginary one.
func (r *Reader) Cplx() (complex128, api.Errno) {
	if r.Left() < 2*partSize {
		return 0, api.ErrShort
	}
	c := complex(firstPart(r.rest), firstPart(r.rest[partSize:]))
	r.skip(2 * partSize)
	return c, api.OK
}

// Byte reads one byte as it is.
func (r *Reader) Byte() (byte, api.Errno) {
	if r.Left() == 0 {
		return 0, api.ErrShort
	}
	b := r.rest[0]
	r.skip(1)
	return b, api.OK
}

// Count reads a number of at most most.
func (r *Reader) Count(most int) (int, api.Errno) {
	ahead := *r
	n, err := ahead.Uint()
	if err != api.OK {
		return 0, err
	}
	// Below 0 nothing is at most most; as a uint64 it would be a great bound.
	if most < 0 || n > uint64(most) {
		return 0, api.ErrBig
	}
	*r = ahead
	return int(n), api.OK
}

// Left: how many bytes are left.
func (r *Reader) Left() int { return len(r.rest) }

func (r *Reader) skip(n int) { r.rest = r.rest[n:] }

// firstPart: the float of which b begins with the bits, the lowest byte first.
func firstPart(b []byte) float64 {
	var bits uint64
	for i := range partSize {
		bits |= uint64(b[i]) << (8 * i)
	}
	return math.Float64frombits(bits)
}
