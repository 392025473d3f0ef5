package code

import (
	"bytes"
	"encoding/binary"
	"math"
	"math/rand"
	"slices"
	"testing"

	"loom/api"
)

// instructions: every op, with each operand worth trying that it may have.
func instructions() []api.Ins {
	var list []api.Ins
	for _, o := range allTold() {
		for _, a := range operandsToTry() {
			if isByTheDocument(o, a) {
				list = append(list, api.Ins{Op: o.op, A: a})
			}
		}
	}
	return list
}

// rows: of no instruction, of each one alone, of MaxCode, and some of all lengths, always the same ones.
func rows() [][]api.Ins {
	all := instructions()
	list := [][]api.Ins{nil, {}, make([]api.Ins, 127), make([]api.Ins, 128), make([]api.Ins, api.MaxCode-1), make([]api.Ins, api.MaxCode)}
	for _, i := range all {
		list = append(list, []api.Ins{i}, slices.Repeat([]api.Ins{i}, api.MaxCode))
	}
	source := rand.New(rand.NewSource(4))
	for range 200 {
		row := make([]api.Ins, source.Intn(api.MaxCode+1))
		for at := range row {
			row[at] = all[source.Intn(len(all))]
		}
		list = append(list, row)
	}
	return list
}

// bytesByTheDocument: what Put is to write of a row that it takes.
func bytesByTheDocument(l []api.Ins) []byte {
	b := binary.AppendUvarint(nil, uint64(len(l)))
	for _, i := range l {
		b = append(b, byte(i.Op))
		if allTold()[i.Op].operand > 0 {
			b = binary.AppendUvarint(b, uint64(i.A))
		}
	}
	return b
}

func expectGet(t *testing.T, b []byte, want api.Errno) {
	t.Helper()
	if got, err := Get(b); err != want || err != api.OK && len(got) > 0 {
		t.Errorf("P4.2: Get of %x: %v, %d, not %d", b, got, err, want)
	}
}

func expectPut(t *testing.T, l []api.Ins, want api.Errno) {
	t.Helper()
	if got, err := Put(l); err != want || err != api.OK && len(got) > 0 {
		t.Errorf("P4.2: Put of %d, %v: %x, %d, not %d", len(l), l, got, err, want)
	}
}

func TestPutsBytes(t *testing.T) {
	got, err := Put([]api.Ins{{Op: api.Load}, {Op: api.PushInt, A: 999}, {Op: api.Add}, {Op: api.IfOne, A: 127}, {Op: api.Ret}})
	want := []byte{5, api.Load, 0, api.PushInt, 0xe7, 7, api.Add, api.IfOne, 127, api.Ret}
	if !bytes.Equal(got, want) || err != api.OK {
		t.Errorf("P4.2: Put: %x, %d, not %x", got, err, want)
	}
	for _, row := range rows() {
		want := bytesByTheDocument(row)
		if got, err := Put(row); !bytes.Equal(got, want) || err != api.OK {
			t.Errorf("P4.2: Put of %v: %x, %d, not %x", row, got, err, want)
		}
	}
}

func TestPutsAtMostMaxCode(t *testing.T) {
	for _, i := range instructions() {
		expectPut(t, slices.Repeat([]api.Ins{i}, api.MaxCode), api.OK)
		expectPut(t, slices.Repeat([]api.Ins{i}, api.MaxCode+1), api.ErrBig)
	}
	expectPut(t, make([]api.Ins, 1<<16), api.ErrBig)
	// Too many counts ahead of one that is none.
	expectPut(t, slices.Repeat([]api.Ins{{Op: -1}}, api.MaxCode+1), api.ErrBig)
}

func TestPutsInstructionsAlone(t *testing.T) {
	var wrong []api.Ins
	for _, o := range allTold() {
		for _, a := range operandsToTry() {
			if !isByTheDocument(o, a) {
				wrong = append(wrong, api.Ins{Op: o.op, A: a})
			}
		}
	}
	for _, op := range noOps() {
		wrong = append(wrong, api.Ins{Op: op}, api.Ins{Op: op, A: 1})
	}
	for _, i := range wrong {
		expectPut(t, []api.Ins{i}, api.ErrOp)
		row := make([]api.Ins, api.MaxCode)
		for _, at := range []int{0, 1, api.MaxCode / 2, api.MaxCode - 1} {
			clear(row)
			row[at] = i
			expectPut(t, row, api.ErrOp)
		}
	}
}

func TestGetsWhatIsPut(t *testing.T) {
	for _, row := range rows() {
		b, err := Put(row)
		if err != api.OK {
			t.Fatalf("P4.2: Put of %v: %d", row, err)
		}
		if got, err := Get(b); !slices.Equal(got, row) || err != api.OK {
			t.Errorf("P4.4: Get of Put of %v: %v, %d", row, got, err)
		}
	}
}

func TestGetsEveryOperand(t *testing.T) {
	great := []uint64{1 << 16, 1 << 31, 1 << 32, 1<<32 + 1, math.MaxInt64, 1 << 63, 1<<63 + 1, math.MaxUint64}
	for a := range uint64(3000) {
		great = append(great, a)
	}
	for _, o := range allTold() {
		if o.operand == 0 {
			continue
		}
		for _, a := range great {
			b := binary.AppendUvarint([]byte{1, byte(o.op)}, a)
			if a > 999 {
				expectGet(t, b, api.ErrOp)
				continue
			}
			if got, err := Get(b); !slices.Equal(got, []api.Ins{{Op: o.op, A: int(a)}}) || err != api.OK {
				t.Errorf("P4.2: Get of %x: %v, %d", b, got, err)
			}
		}
	}
}

func TestRefusesBytesThatAreCutOff(t *testing.T) {
	for _, row := range rows() {
		whole := bytesByTheDocument(row)
		for cut := range whole {
			if got, err := Get(whole[:cut]); err != api.ErrShort || len(got) > 0 {
				t.Errorf("P4.2: Get of %d bytes of %x: %v, %d", cut, whole, got, err)
			}
		}
	}
}

func TestRefusesBytesBehind(t *testing.T) {
	for _, row := range rows() {
		for _, more := range [][]byte{{0}, {1}, {255}, {api.Ret}, {api.Load, 1}, make([]byte, 1000)} {
			expectGet(t, append(bytesByTheDocument(row), more...), api.ErrForm)
		}
	}
}

func TestGetsAtMostMaxCode(t *testing.T) {
	for count := range uint64(api.MaxCode + 1) {
		expectGet(t, append(binary.AppendUvarint(nil, count), make([]byte, count)...), api.OK)
	}
	for _, count := range []uint64{api.MaxCode + 1, 255, 256, 1000, 1 << 16, math.MaxInt32, 1 << 32, 1<<32 + 1, math.MaxInt64, 1 << 63, math.MaxUint64} {
		b := binary.AppendUvarint(nil, count)
		// What follows doesn't count any more, be it there or not.
		expectGet(t, b, api.ErrBig)
		expectGet(t, append(b, make([]byte, 300)...), api.ErrBig)
		expectGet(t, append(b, 255), api.ErrBig)
	}
}

func TestRefusesBytesOfNoOp(t *testing.T) {
	for b := range 256 {
		if b < api.Ops {
			continue
		}
		expectGet(t, []byte{1, byte(b)}, api.ErrOp)
		expectGet(t, []byte{1, byte(b), 0}, api.ErrOp)
		expectGet(t, []byte{2, api.Nop, byte(b)}, api.ErrOp)
		expectGet(t, []byte{3, api.Load, 200, 1, byte(b), 0, api.Ret}, api.ErrOp)
	}
}

func TestRefusesNumbersLongerThanNeeded(t *testing.T) {
	long := [][]byte{{0x80, 0}, {0x81, 0}, {0xe7, 0x87, 0}, {0xe8, 0x87, 0}, {0x80, 0x80, 0x80, 0}, {0x80, 0x80, 0x80, 0x80, 0x80, 0x80, 0x80, 0x80, 0x80, 0}, bytes.Repeat([]byte{0xff}, 11)}
	for _, n := range long {
		expectGet(t, n, api.ErrForm)
		expectGet(t, append(bytes.Clone(n), api.Nop), api.ErrForm)
		for _, o := range allTold() {
			if o.operand > 0 {
				expectGet(t, append([]byte{1, byte(o.op)}, n...), api.ErrForm)
				expectGet(t, append([]byte{2, api.Nop, byte(o.op)}, n...), api.ErrForm)
			}
		}
	}
}

func TestGetsTheFirstErrorAlongTheBytes(t *testing.T) {
	rows := []struct {
		b    []byte
		want api.Errno
	}{
		{[]byte{2, api.Ops}, api.ErrOp},
		{[]byte{2, api.Load, 0xe8, 7}, api.ErrOp},
		{[]byte{2, api.Load, 0x80, 0, api.Ops}, api.ErrForm},
		{[]byte{2, api.Load, 0xe8, 7, api.Load, 0x80, 0}, api.ErrOp},
		{[]byte{1, api.Load, 0xe8, 7, 0}, api.ErrOp},
		{[]byte{1, api.Load, 0xe8}, api.ErrShort},
		{[]byte{1}, api.ErrShort},
		{[]byte{0}, api.OK},
		{[]byte{0, api.Ops}, api.ErrForm},
	}
	for _, r := range rows {
		expectGet(t, r.b, r.want)
	}
	expectGet(t, nil, api.ErrShort)
}

func TestKeepsNothingOfTheCallers(t *testing.T) {
	row := append(make([]api.Ins, 0, 8), api.Ins{Op: api.Load, A: 300}, api.Ins{Op: api.Ret})
	first, _ := Put(row)
	second, _ := Put(row)
	want := bytesByTheDocument(row)
	spoiled := first[:cap(first)]
	for at := range spoiled {
		spoiled[at] = 0xee
	}
	if !bytes.Equal(second, want) || !slices.Equal(row[:3], []api.Ins{{Op: api.Load, A: 300}, {Op: api.Ret}, {}}) {
		t.Errorf("P4.2: Put: %x, not %x, of %v", second, want, row[:3])
	}
	given := append(make([]byte, 0, 16), want...)
	one, _ := Get(given)
	two, _ := Get(given)
	if !bytes.Equal(given[:cap(given)][:len(want)+1], append(want, 0)) {
		t.Errorf("P4.2: Get changed what it was given to %x", given)
	}
	clear(one[:cap(one)])
	clear(given)
	if !slices.Equal(two, row) {
		t.Errorf("P4.2: Get: %v, not %v", two, row)
	}
}

// checkBytes: whatever bytes: an error and nothing, or a row of which Put makes them again.
func checkBytes(t *testing.T, b []byte) {
	t.Helper()
	l, err := Get(b)
	switch err {
	case api.OK:
		again, err := Put(l)
		if !bytes.Equal(again, b) || err != api.OK {
			t.Errorf("P4.4: Put of Get of %x: %x, %d", b, again, err)
		}
	case api.ErrShort, api.ErrForm, api.ErrBig, api.ErrOp:
		if len(l) > 0 {
			t.Errorf("P4.2: Get of %x: %v beside %d", b, l, err)
		}
	default:
		t.Errorf("P4.2: Get of %x: %d", b, err)
	}
}

func TestGetsWhateverBytes(t *testing.T) {
	for a := range 256 {
		for b := range 256 {
			checkBytes(t, []byte{byte(a), byte(b)})
			checkBytes(t, []byte{1, byte(a), byte(b)})
			checkBytes(t, []byte{1, api.Goto, byte(a), byte(b)})
		}
	}
	source := rand.New(rand.NewSource(5))
	for _, row := range rows() {
		b := bytesByTheDocument(row)
		for range 20 {
			b[source.Intn(len(b))] = byte(source.Intn(256))
			checkBytes(t, b)
		}
	}
}

func FuzzGet(f *testing.F) {
	f.Add([]byte{3, api.PushInt, 5, api.Goto, 0xac, 2, api.Ret})
	f.Fuzz(checkBytes)
}
