package wire

import (
	"math"
	"math/rand"
	"testing"

	"loom/api"
)

// step: something that is written, and what reads it back and tells whether it came back as it was.
type step struct {
	write func(w *Writer)
	read  func(r *Reader) bool
}

func sameBits(a, b complex128) bool {
	return math.Float64bits(real(a)) == math.Float64bits(real(b)) && math.Float64bits(imag(a)) == math.Float64bits(imag(b))
}

// steps: of each call, of ordinary things and of edges.
func steps() []step {
	var list []step
	add := func(write func(w *Writer), read func(r *Reader) bool) { list = append(list, step{write, read}) }
	for _, n := range uints() {
		add(func(w *Writer) { w.Uint(n) }, func(r *Reader) bool { got, err := r.Uint(); return got == n && err == api.OK })
		if n <= math.MaxInt {
			add(func(w *Writer) { w.Uint(n) }, func(r *Reader) bool { got, err := r.Count(int(n)); return got == int(n) && err == api.OK })
		}
	}
	for _, n := range ints() {
		add(func(w *Writer) { w.Int(n) }, func(r *Reader) bool { got, err := r.Int(); return got == n && err == api.OK })
	}
	for _, s := range texts() {
		add(func(w *Writer) { w.Text(s) }, func(r *Reader) bool { got, err := r.Text(len(s)); return got == s && err == api.OK })
	}
	for _, re := range floats() {
		for _, im := range floats() {
			c := complex(re, im)
			add(func(w *Writer) { w.Cplx(c) }, func(r *Reader) bool { got, err := r.Cplx(); return sameBits(got, c) && err == api.OK })
		}
	}
	for b := range 256 {
		add(func(w *Writer) { w.Byte(byte(b)) }, func(r *Reader) bool { got, err := r.Byte(); return got == byte(b) && err == api.OK })
	}
	return list
}

func TestReadsWhatIsWritten(t *testing.T) {
	for i, s := range steps() {
		r := Open(written(s.write))
		if !s.read(r) || r.Left() != 0 {
			t.Errorf("P3.3: step %d alone: %d left", i, r.Left())
		}
	}
}

func TestReadsWhatIsWrittenInOrder(t *testing.T) {
	list := steps()
	source := rand.New(rand.NewSource(3))
	for range 20 {
		source.Shuffle(len(list), func(i, j int) { list[i], list[j] = list[j], list[i] })
		w := New()
		for _, s := range list {
			s.write(w)
		}
		r := Open(w.Bytes())
		for i, s := range list {
			if !s.read(r) {
				t.Fatalf("P3.3: step %d of many: %d left", i, r.Left())
			}
		}
		if r.Left() != 0 {
			t.Errorf("P3.3: %d left", r.Left())
		}
		if _, err := r.Byte(); err != api.ErrShort {
			t.Errorf("P3.2: Byte at the end: %d", err)
		}
	}
}
