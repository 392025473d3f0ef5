package class

import (
	"bytes"
	"encoding/binary"
	"math"
	"math/rand"
	"slices"
	"testing"

	"loom/api"
	"loom/code"
)

func uintByTheDocument(b []byte, n int) []byte { return binary.AppendUvarint(b, uint64(n)) }

func textByTheDocument(b []byte, s string) []byte {
	return append(uintByTheDocument(b, len(s)), s...)
}

func typeByTheDocument(b []byte, t api.Type) []byte {
	b = append(b, byte(t.Kind))
	if t.Kind == api.TRef {
		b = textByTheDocument(b, t.Class)
	}
	return b
}

func constByTheDocument(b []byte, k api.Const) []byte {
	b = append(b, byte(k.Kind))
	switch k.Kind {
	case api.CInt:
		return binary.AppendVarint(b, k.Int)
	case api.CCplx:
		b = binary.LittleEndian.AppendUint64(b, math.Float64bits(real(k.Cplx)))
		return binary.LittleEndian.AppendUint64(b, math.Float64bits(imag(k.Cplx)))
	case api.CClass:
		return textByTheDocument(b, k.Class)
	}
	return textByTheDocument(textByTheDocument(b, k.Class), k.Name)
}

func methodByTheDocument(b []byte, m api.Method) []byte {
	b = uintByTheDocument(textByTheDocument(b, m.Name), len(m.Params))
	for _, t := range m.Params {
		b = typeByTheDocument(b, t)
	}
	b = uintByTheDocument(uintByTheDocument(typeByTheDocument(b, m.Ret), m.Locals), m.Stack)
	row, _ := code.Put(m.Code)
	b = append(uintByTheDocument(b, len(row)), row...)
	b = uintByTheDocument(b, len(m.Handlers))
	for _, h := range m.Handlers {
		for _, n := range []int{h.From, h.To, h.Target, h.Class + 1, h.Depth} {
			b = uintByTheDocument(b, n)
		}
	}
	return b
}

// bytesByTheDocument: what Encode is to tell of a class that Check takes.
func bytesByTheDocument(c api.Class) []byte {
	b := textByTheDocument(textByTheDocument([]byte{0x4c, 0x4f, 0x4f, 0x4d, 1}, c.Name), c.Super)
	b = uintByTheDocument(b, len(c.Pool))
	for _, k := range c.Pool {
		b = constByTheDocument(b, k)
	}
	b = uintByTheDocument(b, len(c.Fields))
	for _, f := range c.Fields {
		b = typeByTheDocument(textByTheDocument(b, f.Name), f.Type)
		if f.Volatile {
			b = append(b, 1)
		} else {
			b = append(b, 0)
		}
	}
	b = uintByTheDocument(b, len(c.Methods))
	for _, m := range c.Methods {
		b = methodByTheDocument(b, m)
	}
	return b
}

// taken: classes that Check takes: small and great ones, constants of all edges, and some made by chance, always the same ones.
func taken() []api.Class {
	list := []api.Class{{Name: "A"}, {Name: "A", Super: "B"}, sample(), greatest()}
	for _, n := range []int64{0, 1, -1, 63, 64, -64, -65, math.MaxInt32, math.MaxInt64, math.MinInt64} {
		list = append(list, api.Class{Name: "A", Pool: []api.Const{{Kind: api.CInt, Int: n}}})
	}
	for _, n := range edges() {
		list = append(list, api.Class{Name: "A", Pool: []api.Const{{Kind: api.CCplx, Cplx: n}}})
	}
	source := rand.New(rand.NewSource(7))
	for len(list) < 200 {
		if c := byChance(source); Check(c) == api.OK {
			list = append(list, c)
		}
	}
	return list
}

func byChance(source *rand.Rand) api.Class {
	names := []string{"a", "Bb", "$", "_0", "nnnnnnnnnnnnnnnnnnnn"}
	name := func() string { return names[source.Intn(len(names))] }
	types := []api.Type{plain(api.TInt), plain(api.TCplx), plain(api.TArr), ref(name())}
	c := api.Class{Name: name(), Super: append(names, "")[source.Intn(6)]}
	for range source.Intn(api.MaxPool + 1) {
		all := []api.Const{{Kind: api.CInt, Int: source.Int63() >> source.Intn(63)}, {Kind: api.CCplx, Cplx: complex(source.NormFloat64(), source.NormFloat64())}, {Kind: api.CClass, Class: name()}, {Kind: api.CField, Class: name(), Name: name()}, {Kind: api.CMethod, Class: name(), Name: name()}}
		c.Pool = append(c.Pool, all[source.Intn(len(all))])
	}
	for i := range source.Intn(len(names)) {
		c.Fields = append(c.Fields, api.Field{Name: names[i], Type: types[source.Intn(4)], Volatile: source.Intn(2) == 0})
	}
	for i := range source.Intn(len(names)) {
		m := api.Method{Name: names[i], Ret: append(types, api.Type{})[source.Intn(5)], Locals: 7 + source.Intn(26), Stack: source.Intn(65)}
		for range source.Intn(api.MaxParams + 1) {
			m.Params = append(m.Params, types[source.Intn(4)])
		}
		count := 1 + source.Intn(api.MaxCode)
		for range count - 1 {
			m.Code = append(m.Code, []api.Ins{{Op: api.Add}, {Op: api.Load, A: source.Intn(7)}, {Op: api.IfZero, A: source.Intn(count)}}[source.Intn(3)])
		}
		m.Code = append(m.Code, api.Ins{Op: api.Throw})
		for range source.Intn(api.MaxHandlers + 1) {
			from := source.Intn(count)
			m.Handlers = append(m.Handlers, api.Handler{From: from, To: from + 1 + source.Intn(count-from), Target: source.Intn(count), Class: -1, Depth: source.Intn(7)})
		}
		c.Methods = append(c.Methods, m)
	}
	return c
}

// isNothing: whether c is zero.
func isNothing(c api.Class) bool {
	return c.Name == "" && c.Super == "" && len(c.Pool) == 0 && len(c.Fields) == 0 && len(c.Methods) == 0
}

// ofLayers3To5: the errors that these may tell.
func ofLayers3To5() []api.Errno {
	return []api.Errno{api.ErrShort, api.ErrForm, api.ErrBig, api.ErrOp, api.ErrName, api.ErrConst, api.ErrTarget, api.ErrTwice, api.ErrTail}
}

// expectNone: there is no class of which Encode tells b.
func expectNone(t *testing.T, what string, b []byte) {
	t.Helper()
	c, err := Decode(b)
	if !slices.Contains(ofLayers3To5(), err) || !isNothing(c) {
		t.Errorf("P5.4: %s: %x: %v, %d", what, b, c, err)
	}
}

// checkBytes: whatever bytes: an error and nothing, or a class of which Encode makes them again.
func checkBytes(t *testing.T, b []byte) {
	t.Helper()
	c, err := Decode(b)
	if err != api.OK {
		expectNone(t, "no class", b)
		return
	}
	if again, err := Encode(c); !bytes.Equal(again, b) || err != api.OK {
		t.Errorf("P5.6: Encode of Decode of %x: %x, %d", b, again, err)
	}
}

func TestEncodesBytes(t *testing.T) {
	got, err := Encode(api.Class{Name: "Ab"})
	if want := []byte{0x4c, 0x4f, 0x4f, 0x4d, 1, 2, 'A', 'b', 0, 0, 0, 0}; !bytes.Equal(got, want) || err != api.OK {
		t.Errorf("P5.3: a class without methods: %x, %d, not %x", got, err, want)
	}
	c := api.Class{
		Name: "C", Super: "D",
		Pool:    []api.Const{{Kind: api.CInt, Int: -5}, {Kind: api.CCplx, Cplx: complex(1, math.Copysign(0, -1))}, {Kind: api.CClass, Class: "E"}, {Kind: api.CField, Class: "F", Name: "g"}, {Kind: api.CMethod, Class: "H", Name: "ij"}},
		Fields:  []api.Field{{Name: "k", Type: plain(api.TArr)}, {Name: "l", Type: ref("M"), Volatile: true}},
		Methods: []api.Method{{Name: "n", Params: []api.Type{plain(api.TCplx), ref("O")}, Locals: 3, Stack: 64, Code: []api.Ins{{Op: api.New, A: 2}, {Op: api.Throw}}, Handlers: []api.Handler{{From: 0, To: 2, Target: 1, Class: 2, Depth: 6}, {From: 1, To: 2, Target: 0, Class: -1, Depth: 1}}}},
	}
	want := []byte{
		'L', 'O', 'O', 'M', 1, 1, 'C', 1, 'D',
		5, 1, 9, 2, 0, 0, 0, 0, 0, 0, 0xf0, 0x3f, 0, 0, 0, 0, 0, 0, 0, 0x80, 3, 1, 'E', 4, 1, 'F', 1, 'g', 5, 1, 'H', 2, 'i', 'j',
		2, 1, 'k', 3, 0, 1, 'l', 4, 1, 'M', 1,
		1, 1, 'n', 2, 2, 4, 1, 'O', 0, 3, 64, 4, 2, 25, 2, 35, 2, 0, 2, 1, 3, 6, 1, 2, 0, 0, 1,
	}
	if got, err := Encode(c); !bytes.Equal(got, want) || err != api.OK {
		t.Errorf("P5.3: %x, %d, not %x", got, err, want)
	}
	if got, err := Decode(want); !Same(got, c) || err != api.OK {
		t.Errorf("P5.4: %v, %d, not %v", got, err, c)
	}
	for _, c := range taken() {
		want := bytesByTheDocument(c)
		if got, err := Encode(c); !bytes.Equal(got, want) || err != api.OK {
			t.Errorf("P5.3: Encode of %v: %x, %d, not %x", c, got, err, want)
		}
	}
}

func TestDecodesWhatIsEncoded(t *testing.T) {
	for _, c := range taken() {
		b, err := Encode(c)
		if err != api.OK {
			t.Fatalf("P5.3: Encode of %v: %d", c, err)
		}
		if got, err := Decode(b); !Same(got, c) || err != api.OK {
			t.Errorf("P5.4: Decode of Encode of %v: %v, %d", c, got, err)
		}
	}
}

// No class that Check takes has more than MaxFile bytes, so nothing but this can be seen of Encode's bound.
func TestTheGreatestClassFileFits(t *testing.T) {
	b, err := Encode(greatest())
	if err != api.OK || len(b) < 17000 || len(b) > 20000 {
		t.Errorf("P5.3: Encode of the greatest class: %d bytes, %d", len(b), err)
	}
}

func TestDecodesAtMostMaxFile(t *testing.T) {
	for _, begin := range [][]byte{nil, bytesByTheDocument(sample()), bytesByTheDocument(greatest())} {
		for _, length := range []int{20001, 20002, 1 << 16, 1 << 20} {
			b := append(slices.Clone(begin), make([]byte, length-len(begin))...)
			if c, err := Decode(b); err != api.ErrBig || !isNothing(c) {
				t.Errorf("P5.4: Decode of %d bytes: %v, %d", length, c, err)
			}
		}
		expectNone(t, "as many bytes as may be", append(slices.Clone(begin), make([]byte, 20000-len(begin))...))
	}
}

func TestRefusesBytesThatAreCutOff(t *testing.T) {
	for _, c := range taken() {
		whole := bytesByTheDocument(c)
		// Each cut of the small ones, some of the great ones.
		for cut := 0; cut < len(whole); cut += 1 + len(whole)/500 {
			expectNone(t, "cut off", whole[:cut])
			expectNone(t, "its end alone", whole[cut+1:])
		}
		expectNone(t, "cut off", whole[:len(whole)-1])
	}
	expectNone(t, "nothing", nil)
}

func TestRefusesBytesBehind(t *testing.T) {
	for _, c := range taken() {
		whole := bytesByTheDocument(c)
		for _, more := range [][]byte{{0}, {1}, {255}, {0, 0, 0}, whole} {
			expectNone(t, "more behind it", append(slices.Clone(whole), more...))
		}
	}
}

func TestRefusesOtherBeginnings(t *testing.T) {
	whole := bytesByTheDocument(sample())
	for at := range 5 {
		for n := range 256 {
			b := slices.Clone(whole)
			b[at] = byte(n)
			if b[at] != whole[at] {
				expectNone(t, "another beginning", b)
			}
		}
	}
}

func TestDecodesWhateverByteIsTurned(t *testing.T) {
	whole := bytesByTheDocument(sample())
	for at := range whole {
		for n := range 256 {
			b := slices.Clone(whole)
			b[at] = byte(n)
			checkBytes(t, b)
			checkBytes(t, slices.Insert(slices.Clone(whole), at, byte(n)))
		}
		checkBytes(t, slices.Delete(slices.Clone(whole), at, at+1))
	}
}

func TestRefusesNumbersLongerThanNeeded(t *testing.T) {
	whole := bytesByTheDocument(sample())
	for at, n := range whole {
		longer := slices.Concat(whole[:at], []byte{n | 0x80, 0}, whole[at+1:])
		checkBytes(t, longer)
		great := slices.Concat(whole[:at], []byte{n | 0x80, 0x80, 0x80, 0x80, 0x10}, whole[at+1:])
		checkBytes(t, great)
		wrapped := slices.Concat(whole[:at], []byte{n | 0x80, 0x80, 0x80, 0x80, 0x80, 0x80, 0x80, 0x80, 0x80, 1}, whole[at+1:])
		checkBytes(t, wrapped)
	}
}

// Bytes that are written as Encode would write them, if Check took what it refuses.
func TestRefusesBytesOfWhatCheckRefuses(t *testing.T) {
	for _, f := range allFaults() {
		b := bytesByTheDocument(changed(f.spoil))
		// What isn't a constant's or a type's own isn't in the bytes.
		if !bytes.Equal(b, bytesByTheDocument(sample())) {
			expectNone(t, f.what, b)
		}
	}
}

func TestRefusesCodeOfAnotherLength(t *testing.T) {
	begin := []byte{'L', 'O', 'O', 'M', 1, 1, 'A', 0, 0, 0, 1, 1, 'f', 0, 0, 1, 0}
	try := func(code ...byte) []byte {
		return append(append(append(slices.Clone(begin), byte(len(code))), code...), 0)
	}
	if c, err := Decode(try(1, api.Ret)); err != api.OK || len(c.Methods) != 1 {
		t.Fatalf("P5.4: %v, %d", c, err)
	}
	expectNone(t, "no bytes of code", try())
	expectNone(t, "no instruction", try(0))
	expectNone(t, "fewer bytes than instructions", try(2, api.Ret))
	expectNone(t, "bytes behind the instructions", try(1, api.Ret, 0))
	expectNone(t, "bytes behind the instructions", try(1, api.Ret, api.Ret))
	expectNone(t, "more bytes than are left", append(slices.Clone(begin), 100, 1, api.Ret, 0))
}

func TestDecodesWhateverBytes(t *testing.T) {
	source := rand.New(rand.NewSource(6))
	mark := []byte{'L', 'O', 'O', 'M', 1, 1, 'A', 0}
	for range 20000 {
		b := make([]byte, source.Intn(60))
		for at := range b {
			b[at] = byte(source.Intn(256) >> source.Intn(8))
		}
		checkBytes(t, b)
		checkBytes(t, append(slices.Clone(mark), b...))
	}
	for _, c := range taken() {
		b := bytesByTheDocument(c)
		for range 50 {
			b[source.Intn(len(b))] ^= byte(1 << source.Intn(8))
			checkBytes(t, b)
		}
	}
}

func FuzzDecode(f *testing.F) {
	f.Add(bytesByTheDocument(sample()))
	f.Fuzz(checkBytes)
}
