package wire

import (
	"bytes"
	"math"
)

// Writer holds what was written.
type Writer struct{ written []byte }

// New: a writer of nothing yet.
func New() *Writer { return new(Writer) }

// Uint writes groups of seven bits, the lowest first, as few as may be.
func (w *Writer) Uint(n uint64) {
group:
	if n >= more {
		w.Byte(byte(n) | more)
		n >>= groupBits
		goto group
	}
	w.Byte(byte(n))
}

// Int writes n with its sign folded in.
func (w *Writer) Int(n int64) { w.Uint(folded(n)) }

// Text writes the length of s, then its bytes.
func (w *Writer) Text(s string) {
	w.Uint(uint64(len(s)))
	w.written = append(w.written, s...)
}

// Cplx writes the bits of the real part, then those of the imaginary one.
func (w *Writer) Cplx(c complex128) {
	w.part(real(c))
	w.part(imag(c))
}

// Byte writes b as it is.
func (w *Writer) Byte(b byte) { w.written = append(w.written, b) }

// Bytes: all that was written, as the caller's own.
func (w *Writer) Bytes() []byte { return bytes.Clone(w.written) }

// part writes the bits of a float, the lowest byte first.
func (w *Writer) part(x float64) {
	bits := math.Float64bits(x)
	for range partSize {
		w.Byte(byte(bits))
		bits >>= 8
	}
}
