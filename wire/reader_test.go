package wire

import (
	"bytes"
	"encoding/binary"
	"fmt"
	"math"
	"strings"
	"testing"

	"loom/api"
)

// documented: what the chapter says of a number at the beginning of b: it, how many bytes it has, the error.
func documented(b []byte) (uint64, int, api.Errno) {
	for i, group := range b {
		tenth := i == 9
		last := group < 128
		if tenth && group != 1 || last && i > 0 && group == 0 {
			return 0, 0, api.ErrForm
		}
		if last {
			n, size := binary.Uvarint(b)
			return n, size, api.OK
		}
	}
	return 0, 0, api.ErrShort
}

// each: every list of at most most of the bytes.
func each(some string, most int, do func(b []byte)) {
	var grow func(b []byte)
	grow = func(b []byte) {
		do(b)
		if len(b) == most {
			return
		}
		for i := range len(some) {
			grow(append(b[:len(b):len(b)], some[i]))
		}
	}
	grow(nil)
}

// state: all that can be told of a reader that the asked call must leave where it is.
func state(r *Reader) string {
	return fmt.Sprint(r.Left(), r.rest)
}

func checkNumbers(t *testing.T, b []byte) {
	t.Helper()
	want, size, wantErr := documented(b)
	r := Open(b)
	if n, err := r.Uint(); n != want || err != wantErr || r.Left() != len(b)-size {
		t.Errorf("P3.2: Uint of %x: %d, %d, %d left", b, n, err, r.Left())
	}
	r = Open(b)
	n, err := r.Int()
	if err != wantErr || r.Left() != len(b)-size || foldedByTheDocument(n) != want {
		t.Errorf("P3.2: Int of %x: %d, %d, %d left", b, n, err, r.Left())
	}
	if wantErr == api.OK {
		return
	}
	r = Open(b)
	for range 2 {
		if c, err := r.Count(math.MaxInt); c != 0 || err != wantErr || r.Left() != len(b) {
			t.Errorf("P3.2: Count of %x: %d, %d, %d left", b, c, err, r.Left())
		}
		for _, most := range []int{-1, 0, math.MaxInt} {
			if s, err := r.Text(most); s != "" || err != wantErr || r.Left() != len(b) {
				t.Errorf("P3.2: Text(%d) of %x: %q, %d, %d left", most, b, s, err, r.Left())
			}
		}
		if u, err := r.Uint(); u != 0 || err != wantErr || r.Left() != len(b) {
			t.Errorf("P3.2: Uint of %x: %d, %d, %d left", b, u, err, r.Left())
		}
		if i, err := r.Int(); i != 0 || err != wantErr || r.Left() != len(b) {
			t.Errorf("P3.2: Int of %x: %d, %d, %d left", b, i, err, r.Left())
		}
	}
}

func TestReadsGroupsAndRefusesOthers(t *testing.T) {
	const some = "\x00\x01\x02\x7f\x80\x81\x82\xff"
	each(some, 4, func(b []byte) { checkNumbers(t, b) })
	for _, ahead := range []string{"\x80", "\xff", "\x81"} {
		for count := 6; count < 11; count++ {
			begin := []byte(strings.Repeat(ahead, count))
			each(some, 3, func(b []byte) { checkNumbers(t, append(begin[:count:count], b...)) })
		}
	}
	for tenth := range 256 {
		begin := strings.Repeat("\x80", 9) + string([]byte{byte(tenth)})
		for _, behind := range []string{"", "\x00", "\x01", "\x80", "\x80\x80"} {
			checkNumbers(t, []byte(begin+behind))
		}
	}
	checkNumbers(t, bytes.Repeat([]byte{0x80}, 5000))
}

func TestRefusesByTheFirstFault(t *testing.T) {
	nine := strings.Repeat("\xff", 9)
	rows := []struct {
		b    string
		n    uint64
		err  api.Errno
		left int
	}{
		{"", 0, api.ErrShort, 0},
		{"\x80", 0, api.ErrShort, 1},
		{"\xff\xff", 0, api.ErrShort, 2},
		{"\x00", 0, api.OK, 0},
		{"\x00\x00", 0, api.OK, 1},
		{"\x80\x00", 0, api.ErrForm, 2},
		{"\xff\x00\x01", 0, api.ErrForm, 3},
		{"\xff\x80\x00", 0, api.ErrForm, 3},
		{"\xff\x80\x01", 127 + 1<<14, api.OK, 0},
		{"\xac\x02\xac", 300, api.OK, 1},
		{nine, 0, api.ErrShort, 9},
		{nine + "\x01", math.MaxUint64, api.OK, 0},
		{strings.Repeat("\x80", 9) + "\x01", 1 << 63, api.OK, 0},
		{nine + "\x00", 0, api.ErrForm, 10},
		{nine + "\x02", 0, api.ErrForm, 10},
		{nine + "\x7f", 0, api.ErrForm, 10},
		{nine + "\x80", 0, api.ErrForm, 10},
		{nine + "\x81", 0, api.ErrForm, 10},
		{nine + "\x81\x00", 0, api.ErrForm, 11},
		{nine + "\x81\x01", 0, api.ErrForm, 11},
		{nine + "\x01\x80", math.MaxUint64, api.OK, 1},
		{nine[:8] + "\x7f", math.MaxInt64, api.OK, 0},
	}
	for _, row := range rows {
		r := Open([]byte(row.b))
		if n, err := r.Uint(); n != row.n || err != row.err || r.Left() != row.left {
			t.Errorf("P3.2: Uint of %x: %d, %d, %d left", row.b, n, err, r.Left())
		}
		checkNumbers(t, []byte(row.b))
	}
}

func TestCountsWithinABound(t *testing.T) {
	for _, n := range uints() {
		b := binary.AppendUvarint(nil, n)
		for _, most := range bounds(n) {
			r := Open(b)
			got, err := r.Count(most)
			if most >= 0 && n <= uint64(most) {
				if uint64(got) != n || err != api.OK || r.Left() != 0 {
					t.Errorf("P3.2: Count(%d) of %d: %d, %d, %d left", most, n, got, err, r.Left())
				}
				continue
			}
			if got != 0 || err != api.ErrBig || r.Left() != len(b) {
				t.Errorf("P3.2: Count(%d) of %d: %d, %d, %d left", most, n, got, err, r.Left())
			}
			if again, err := r.Uint(); again != n || err != api.OK {
				t.Errorf("P3.2: Uint of %d behind an error: %d, %d", n, again, err)
			}
		}
	}
}

// bounds: below 0, at 0, around n, the greatest.
func bounds(n uint64) []int {
	return []int{math.MinInt, -1, 0, 1, int(n) - 1, int(n), int(n) + 1, math.MaxInt}
}

func TestReadsTextsWithinABound(t *testing.T) {
	for _, s := range texts() {
		b := append(binary.AppendUvarint(nil, uint64(len(s))), s...)
		b = append(b, "behind"...)
		for _, most := range bounds(uint64(len(s))) {
			r := Open(b)
			got, err := r.Text(most)
			if most >= len(s) {
				if got != s || err != api.OK || r.Left() != len("behind") {
					t.Errorf("P3.2: Text(%d) of %d bytes: %d bytes, %d, %d left", most, len(s), len(got), err, r.Left())
				}
				continue
			}
			if got != "" || err != api.ErrBig || r.Left() != len(b) {
				t.Errorf("P3.2: Text(%d) of %d bytes: %d bytes, %d, %d left", most, len(s), len(got), err, r.Left())
			}
		}
	}
}

func TestReadsNoTextThatIsCutOff(t *testing.T) {
	for _, s := range texts() {
		whole := append(binary.AppendUvarint(nil, uint64(len(s))), s...)
		for _, cut := range []int{0, 1, 2, 3, 50, len(whole) - 2, len(whole) - 1} {
			if cut < 0 || cut >= len(whole) {
				continue
			}
			r := Open(whole[:cut])
			for range 2 {
				if got, err := r.Text(len(s)); got != "" || err != api.ErrShort || r.Left() != cut {
					t.Errorf("P3.2: Text of %d of %d bytes: %q, %d, %d left", cut, len(whole), got, err, r.Left())
				}
			}
		}
	}
	// A bound counts ahead of an end, and no length, however great, wraps.
	for _, n := range []uint64{5, math.MaxInt32, math.MaxInt64 - 1, math.MaxInt64, 1 << 63, math.MaxUint64} {
		b := append(binary.AppendUvarint(nil, n), "abcd"...)
		for _, most := range bounds(n) {
			want := api.ErrBig
			if most >= 0 && n <= uint64(most) {
				want = api.ErrShort
			}
			r := Open(b)
			if got, err := r.Text(most); got != "" || err != want || r.Left() != len(b) {
				t.Errorf("P3.2: Text(%d) of length %d: %q, %d, %d left", most, n, got, err, r.Left())
			}
		}
	}
}

func TestReadsBytesUntilTheEnd(t *testing.T) {
	var all []byte
	for b := range 256 {
		all = append(all, byte(b))
	}
	r := Open(all)
	for b := range 256 {
		if got, err := r.Byte(); got != byte(b) || err != api.OK || r.Left() != 255-b {
			t.Errorf("P3.2: Byte: %d, not %d, %d, %d left", got, b, err, r.Left())
		}
	}
	for _, r := range []*Reader{r, Open(nil), Open([]byte{})} {
		for range 2 {
			if got, err := r.Byte(); got != 0 || err != api.ErrShort || r.Left() != 0 {
				t.Errorf("P3.2: Byte at the end: %d, %d, %d left", got, err, r.Left())
			}
		}
	}
}

func TestReadsComplexNumbersOfSixteenBytes(t *testing.T) {
	whole := written(func(w *Writer) { w.Cplx(complex(math.Pi, math.Copysign(0, -1))) })
	for cut := range whole {
		r := Open(whole[:cut])
		for range 2 {
			if c, err := r.Cplx(); c != 0 || err != api.ErrShort || r.Left() != cut {
				t.Errorf("P3.2: Cplx of %d bytes: %v, %d, %d left", cut, c, err, r.Left())
			}
		}
	}
	r := Open([]byte("\x01\x02\x03\x04\x05\x06\x07\x08\x11\x12\x13\x14\x15\x16\x17\x18\x21"))
	c, err := r.Cplx()
	if math.Float64bits(real(c)) != 0x0807060504030201 || math.Float64bits(imag(c)) != 0x1817161514131211 || err != api.OK || r.Left() != 1 {
		t.Errorf("P3.2: Cplx: %v, %d, %d left", c, err, r.Left())
	}
}

func TestStaysWhereItIsAtAnError(t *testing.T) {
	// Of 05 "abc" each call but Byte and Uint is refused; the reader then goes on as if it hadn't been asked.
	r := Open([]byte("\x07\x05abc"))
	r.Byte()
	was := state(r)
	refused := []struct {
		what string
		ask  func() api.Errno
		want api.Errno
	}{
		{"Text(4)", func() api.Errno { _, err := r.Text(4); return err }, api.ErrBig},
		{"Text(5)", func() api.Errno { _, err := r.Text(5); return err }, api.ErrShort},
		{"Count(4)", func() api.Errno { _, err := r.Count(4); return err }, api.ErrBig},
		{"Count(-1)", func() api.Errno { _, err := r.Count(-1); return err }, api.ErrBig},
		{"Cplx", func() api.Errno { _, err := r.Cplx(); return err }, api.ErrShort},
	}
	for range 2 {
		for _, c := range refused {
			if err := c.ask(); err != c.want || state(r) != was {
				t.Errorf("P3.2: %s: %d, %s, not %s", c.what, err, state(r), was)
			}
		}
	}
	if n, err := r.Count(5); n != 5 || err != api.OK {
		t.Errorf("P3.2: Count behind errors: %d, %d", n, err)
	}
	for _, want := range []byte("abc") {
		if b, err := r.Byte(); b != want || err != api.OK {
			t.Errorf("P3.2: Byte behind errors: %d, %d", b, err)
		}
	}
}

func TestKeepsNothingOfTheCallers(t *testing.T) {
	given := append(make([]byte, 0, 64), "\x03abc\x03abc"...)
	r := Open(given)
	other := Open(given)
	clear(given[:cap(given)])
	first, _ := r.Text(9)
	if first != "abc" || other.Left() != 8 {
		t.Errorf("P3.2: Text of bytes that the caller overwrote: %q, %d left of another reader", first, other.Left())
	}
	given = []byte("\x83\x00\x03abc")
	was := bytes.Clone(given)
	r = Open(given)
	r.Uint()
	r.Text(0)
	r.Byte()
	r.Byte()
	r.Text(3)
	if !bytes.Equal(given, was) {
		t.Errorf("P3.2: a reader changed what it was given to %x", given)
	}
}

func FuzzReader(f *testing.F) {
	f.Add([]byte("\xff\xff\xff\xff\xff\xff\xff\xff\xff\x01\x03abc"), 3)
	f.Fuzz(func(t *testing.T, b []byte, most int) {
		checkNumbers(t, b)
		r := Open(b)
		s, err := r.Text(most)
		if err == api.OK {
			again := written(func(w *Writer) { w.Text(s) })
			if len(s) > most || !bytes.Equal(again, b[:len(b)-r.Left()]) {
				t.Errorf("P3.3: Text(%d) of %x: %q", most, b, s)
			}
		} else if s != "" || r.Left() != len(b) {
			t.Errorf("P3.2: Text(%d) of %x: %q, %d left", most, b, s, r.Left())
		}
	})
}
