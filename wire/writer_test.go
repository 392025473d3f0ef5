package wire

import (
	"bytes"
	"encoding/binary"
	"math"
	"math/big"
	"math/rand"
	"strings"
	"testing"
)

// uints: each number at which a group or a bit more is filled, its neighbours, and some of all bits, always the same ones.
func uints() []uint64 {
	list := []uint64{0, 300, math.MaxUint64, math.MaxInt64, 1 << 63}
	for shift := range 64 {
		list = append(list, 1<<shift-1, 1<<shift, 1<<shift+1)
	}
	source := rand.New(rand.NewSource(1))
	for range 1000 {
		list = append(list, source.Uint64()>>source.Intn(64))
	}
	return list
}

// ints: the bits of uints, and what lies as far below 0.
func ints() []int64 {
	var list []int64
	for _, n := range uints() {
		list = append(list, int64(n), -int64(n), ^int64(n))
	}
	return list
}

// floats: ordinary ones, edges, both noughts, NaNs of all kinds.
func floats() []float64 {
	var list []float64
	for _, x := range []float64{0, 1, math.Pi, math.SmallestNonzeroFloat64, math.MaxFloat64, math.Inf(1), math.NaN()} {
		list = append(list, x, math.Copysign(x, -1))
	}
	for _, bits := range []uint64{0x7ff0000000000001, 0xfff0000000000001, 0x7fffffffffffffff, 0xffffffffffffffff, 0xfff8000000000005, 0x0123456789abcdef} {
		list = append(list, math.Float64frombits(bits))
	}
	return list
}

func texts() []string {
	return []string{"", "a", "abc", "\x00", "\x80\xff", "\u00e9\u4e16", strings.Repeat("x", 127), strings.Repeat("y", 128), strings.Repeat("\xff", 300), strings.Repeat("z", 1<<14), strings.Repeat("w", 1<<16+1)}
}

// written: what a new writer holds when it was told by tell.
func written(tell func(w *Writer)) []byte {
	w := New()
	tell(w)
	return w.Bytes()
}

func expectBytes(t *testing.T, what string, got []byte, want string) {
	t.Helper()
	if string(got) != want {
		t.Errorf("P3.1: %s: %x, not %x", what, got, want)
	}
}

func TestWritesTheExamples(t *testing.T) {
	expectBytes(t, "Uint(300)", written(func(w *Writer) { w.Uint(300) }), "\xac\x02")
	expectBytes(t, "Int(-1)", written(func(w *Writer) { w.Int(-1) }), "\x01")
	expectBytes(t, "nothing", New().Bytes(), "")
}

func TestWritesEveryByteAsItIs(t *testing.T) {
	for b := range 256 {
		expectBytes(t, "Byte", written(func(w *Writer) { w.Byte(byte(b)) }), string([]byte{byte(b)}))
	}
}

func TestWritesGroups(t *testing.T) {
	rows := []struct {
		n    uint64
		want string
	}{
		{0, "\x00"}, {1, "\x01"}, {127, "\x7f"}, {128, "\x80\x01"}, {255, "\xff\x01"}, {256, "\x80\x02"}, {16383, "\xff\x7f"}, {16384, "\x80\x80\x01"},
		{math.MaxInt64, "\xff\xff\xff\xff\xff\xff\xff\xff\x7f"},
		{1 << 63, "\x80\x80\x80\x80\x80\x80\x80\x80\x80\x01"},
		{math.MaxUint64, "\xff\xff\xff\xff\xff\xff\xff\xff\xff\x01"},
	}
	for _, r := range rows {
		expectBytes(t, "Uint", written(func(w *Writer) { w.Uint(r.n) }), r.want)
	}
	for _, n := range uints() {
		expectBytes(t, "Uint", written(func(w *Writer) { w.Uint(n) }), string(binary.AppendUvarint(nil, n)))
	}
}

func TestWritesSigns(t *testing.T) {
	rows := []struct {
		n    int64
		want string
	}{
		{0, "\x00"}, {-1, "\x01"}, {1, "\x02"}, {-2, "\x03"}, {63, "\x7e"}, {-64, "\x7f"}, {64, "\x80\x01"}, {-65, "\x81\x01"},
		{math.MaxInt64, "\xfe\xff\xff\xff\xff\xff\xff\xff\xff\x01"},
		{math.MinInt64, "\xff\xff\xff\xff\xff\xff\xff\xff\xff\x01"},
	}
	for _, r := range rows {
		expectBytes(t, "Int", written(func(w *Writer) { w.Int(r.n) }), r.want)
	}
	for _, n := range ints() {
		expectBytes(t, "Int", written(func(w *Writer) { w.Int(n) }), string(binary.AppendUvarint(nil, foldedByTheDocument(n))))
	}
}

// foldedByTheDocument: 2n, if n isn't below 0, else -2n - 1, reckoned without wrapping.
func foldedByTheDocument(n int64) uint64 {
	twice := new(big.Int).Mul(big.NewInt(n), big.NewInt(2))
	if n < 0 {
		twice.Sub(twice.Neg(twice), big.NewInt(1))
	}
	return twice.Uint64()
}

func TestWritesTexts(t *testing.T) {
	expectBytes(t, "Text", written(func(w *Writer) { w.Text("") }), "\x00")
	expectBytes(t, "Text", written(func(w *Writer) { w.Text("ab") }), "\x02ab")
	for _, s := range texts() {
		want := string(binary.AppendUvarint(nil, uint64(len(s)))) + s
		expectBytes(t, "Text", written(func(w *Writer) { w.Text(s) }), want)
	}
}

func TestWritesTheBitsOfParts(t *testing.T) {
	expectBytes(t, "Cplx", written(func(w *Writer) { w.Cplx(complex(1, -2)) }), "\x00\x00\x00\x00\x00\x00\xf0\x3f\x00\x00\x00\x00\x00\x00\x00\xc0")
	expectBytes(t, "Cplx", written(func(w *Writer) { w.Cplx(complex(0, math.Copysign(0, -1))) }), strings.Repeat("\x00", 15)+"\x80")
	for _, re := range floats() {
		for _, im := range floats() {
			want := binary.LittleEndian.AppendUint64(nil, math.Float64bits(re))
			want = binary.LittleEndian.AppendUint64(want, math.Float64bits(im))
			expectBytes(t, "Cplx", written(func(w *Writer) { w.Cplx(complex(re, im)) }), string(want))
		}
	}
}

func TestWritesOneBehindTheOther(t *testing.T) {
	got := written(func(w *Writer) {
		w.Byte(200)
		w.Text("no")
		w.Uint(300)
		w.Int(-300)
		w.Text("")
		w.Cplx(0)
		w.Byte(0)
	})
	expectBytes(t, "all", got, "\xc8\x02no\xac\x02\xd7\x04\x00"+strings.Repeat("\x00", 16)+"\x00")
}

func TestHandsOutBytesOfTheCallersOwn(t *testing.T) {
	w := New()
	other := New()
	w.Text("abc")
	first := w.Bytes()
	// Whoever overwrites an answer, its spare room too, changes no other one, and nothing that is written later.
	spoil := func(b []byte) {
		for i := range b[:cap(b)] {
			b[:cap(b)][i] = 0xee
		}
	}
	second := w.Bytes()
	spoil(first)
	expectBytes(t, "an earlier answer is spoilt", second, "\x03abc")
	expectBytes(t, "an earlier answer is spoilt", w.Bytes(), "\x03abc")
	w.Byte('d')
	expectBytes(t, "more is written", second, "\x03abc")
	expectBytes(t, "more is written", w.Bytes(), "\x03abcd")
	third := w.Bytes()
	w.Uint(1 << 40)
	spoil(second)
	expectBytes(t, "more is written", third, "\x03abcd")
	expectBytes(t, "another writer", other.Bytes(), "")
	if !bytes.Equal(w.Bytes(), w.Bytes()) {
		t.Error("P3.1: two answers of Bytes without anything written between")
	}
}
