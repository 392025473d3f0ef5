package cplx

import (
	"math"
	"math/big"
	"math/rand"
	"testing"
)

// edges: floats at which a sum or a product is at its bound, or of a kind of its own.
func edges() []float64 {
	list := []float64{
		0, 1, 3, math.SmallestNonzeroFloat64, 0x1p-1022, 0x1p-537, 1 + 0x1p-30, 1 - 0x1p-53, 0x1p53 + 2, 0x1p512, 1e300, math.MaxFloat64, math.Inf(1),
	}
	for _, x := range list[:len(list):len(list)] {
		list = append(list, -x)
	}
	return append(list, math.NaN())
}

// numbers: all numbers of two edges, then some of all bits, always the same ones.
func numbers() []complex128 {
	var list []complex128
	for _, re := range edges() {
		for _, im := range edges() {
			list = append(list, complex(re, im))
		}
	}
	source := rand.New(rand.NewSource(1))
	for range 500 {
		list = append(list, complex(math.Float64frombits(source.Uint64()), math.Float64frombits(source.Uint64())))
	}
	return list
}

// pairs: of numbers, and of ordinary ones, always the same ones.
func pairs() [][2]complex128 {
	list := numbers()
	source := rand.New(rand.NewSource(2))
	var out [][2]complex128
	for range 40000 {
		out = append(out, [2]complex128{list[source.Intn(len(list))], list[source.Intn(len(list))]})
	}
	for range 10000 {
		a := complex(source.NormFloat64(), source.NormFloat64())
		b := complex(source.NormFloat64(), source.NormFloat64())
		out = append(out, [2]complex128{a, b})
	}
	return out
}

// exactly: what op makes of a and b without rounding, then rounded once to a float64; a NaN, where there is no such number.
func exactly(op func(z, x, y *big.Float) *big.Float, a, b float64) (out float64) {
	if math.IsNaN(a) || math.IsNaN(b) {
		return math.NaN()
	}
	defer func() {
		if _, none := recover().(big.ErrNaN); none {
			out = math.NaN()
		}
	}()
	const bitsOfAnySum = 2200
	z := new(big.Float).SetPrec(bitsOfAnySum)
	out, _ = op(z, big.NewFloat(a), big.NewFloat(b)).Float64()
	return out
}

func sum(a, b float64) float64        { return exactly((*big.Float).Add, a, b) }
func difference(a, b float64) float64 { return exactly((*big.Float).Sub, a, b) }
func product(a, b float64) float64    { return exactly((*big.Float).Mul, a, b) }

// alike: bit by bit, any NaN like any other one.
func alike(a, b float64) bool {
	return a != a && b != b || math.Float64bits(a) == math.Float64bits(b)
}

func expect(t *testing.T, what string, a, b, got complex128, re, im float64) {
	t.Helper()
	if !alike(real(got), re) || !alike(imag(got), im) {
		t.Errorf("P2.1: %s(%v, %v): %v, not (%v, %v)", what, a, b, got, re, im)
	}
}

func TestReckonsByOrdinaryNumbers(t *testing.T) {
	a, b := complex(3, 4), complex(-1, 2)
	expect(t, "Add", a, b, Add(a, b), 2, 6)
	expect(t, "Sub", a, b, Sub(a, b), 4, 2)
	expect(t, "Mul", a, b, Mul(a, b), -11, 2)
	expect(t, "Mul", 1i, 1i, Mul(1i, 1i), -1, 0)
	expect(t, "Conj", a, 0, Conj(a), 3, -4)
	if got := Norm(a); got != 25 {
		t.Errorf("P2.1: Norm(%v): %v", a, got)
	}
}

func TestRoundsOneByOne(t *testing.T) {
	for _, p := range pairs() {
		a, b := p[0], p[1]
		w, x, y, z := real(a), imag(a), real(b), imag(b)
		expect(t, "Add", a, b, Add(a, b), sum(w, y), sum(x, z))
		expect(t, "Sub", a, b, Sub(a, b), difference(w, y), difference(x, z))
		expect(t, "Mul", a, b, Mul(a, b), difference(product(w, y), product(x, z)), sum(product(w, z), product(x, y)))
		if got, want := Norm(a), sum(product(w, w), product(x, x)); !alike(got, want) {
			t.Errorf("P2.1: Norm(%v): %v, not %v", a, got, want)
		}
	}
}

func TestFusesNothing(t *testing.T) {
	// The square of near is not a float64: what rounding takes off shows as soon as one of two products goes into the sum unrounded.
	near := 1 + 0x1p-30
	rounded, lost := 1+0x1p-29, 0x1p-60
	if math.FMA(near, near, -rounded) != lost {
		t.Fatal("a fused product would not show")
	}
	expect(t, "Mul", complex(near, near), complex(near, near), Mul(complex(near, near), complex(near, near)), 0, 2*rounded)
	expect(t, "Mul", complex(near, 1), complex(near, rounded), Mul(complex(near, 1), complex(near, rounded)), 0, product(near, rounded)+near)
	expect(t, "Mul", complex(rounded, near), complex(1, near), Mul(complex(rounded, near), complex(1, near)), 0, product(rounded, near)+near)
	expect(t, "Mul", complex(near, -rounded), complex(1, near), Mul(complex(near, -rounded), complex(1, near)), sum(near, product(rounded, near)), 0)
	expect(t, "Mul", complex(-rounded, near), complex(near, 1), Mul(complex(-rounded, near), complex(near, 1)), difference(product(-rounded, near), near), 0)
	// In a Norm both products count up: at these two parts an unrounded one, whichever it is, turns the rounding of the sum.
	w, x := 0x1.00000004p0, 0x1.00000042p0
	want := sum(product(w, w), product(x, x))
	if math.FMA(w, w, product(x, x)) == want || math.FMA(x, x, product(w, w)) == want {
		t.Fatal("a fused square would not show")
	}
	if got := Norm(complex(w, x)); got != want {
		t.Errorf("P2.1: Norm(%v, %v): %v, not %v", w, x, got, want)
	}
}

func TestReckonsAtEdges(t *testing.T) {
	inf, nan, minus := math.Inf(1), math.NaN(), math.Copysign(0, -1)
	most, least := math.MaxFloat64, math.SmallestNonzeroFloat64
	expect(t, "Add", complex(minus, 0), complex(minus, minus), Add(complex(minus, 0), complex(minus, minus)), minus, 0)
	expect(t, "Sub", complex(minus, 0), 0, Sub(complex(minus, 0), 0), minus, 0)
	expect(t, "Add", complex(most, inf), complex(most, -inf), Add(complex(most, inf), complex(most, -inf)), inf, nan)
	expect(t, "Sub", complex(inf, least), complex(inf, least), Sub(complex(inf, least), complex(inf, least)), nan, 0)
	expect(t, "Mul", complex(most, 0), complex(most, 0), Mul(complex(most, 0), complex(most, 0)), inf, 0)
	expect(t, "Mul", complex(most, most), complex(most, most), Mul(complex(most, most), complex(most, most)), nan, inf)
	expect(t, "Mul", complex(least, 0), complex(-least, 0), Mul(complex(least, 0), complex(-least, 0)), minus, 0)
	// The parts of a number with an infinity are no case of their own.
	expect(t, "Mul", complex(inf, 0), complex(1, 0), Mul(complex(inf, 0), complex(1, 0)), inf, nan)
	expect(t, "Mul", complex(inf, inf), complex(inf, inf), Mul(complex(inf, inf), complex(inf, inf)), nan, inf)
	norms := []struct{ re, im, want float64 }{
		{minus, minus, 0}, {-3, minus, 9}, {-inf, 1, inf}, {1, -inf, inf}, {nan, 1, nan}, {nan, inf, nan}, {most, 0, inf}, {least, least, 0}, {0x1p-537, 0, least},
	}
	for _, n := range norms {
		if got := Norm(complex(n.re, n.im)); !alike(got, n.want) {
			t.Errorf("P2.1: Norm(%v, %v): %v", n.re, n.im, got)
		}
	}
}

func TestTurnsTheSign(t *testing.T) {
	for _, a := range numbers() {
		got := Conj(a)
		if !alike(real(got), real(a)) {
			t.Errorf("P2.1: Conj(%v): %v", a, got)
		}
		if imag(a) != imag(a) {
			if imag(got) == imag(got) {
				t.Errorf("P2.1: Conj(%v): %v", a, got)
			}
			continue
		}
		if math.Float64bits(imag(got)) != math.Float64bits(imag(a))^1<<63 {
			t.Errorf("P2.1: Conj(%v): %v", a, got)
		}
	}
	expect(t, "Conj", 0, 0, Conj(0), 0, math.Copysign(0, -1))
}

func TestTellsTheSame(t *testing.T) {
	for _, p := range pairs() {
		a, b := p[0], p[1]
		want := alike(real(a), real(b)) && alike(imag(a), imag(b))
		if Same(a, b) != want || Same(b, a) != want || !Same(a, a) {
			t.Errorf("P2.1: Same(%v, %v): %v", a, b, Same(a, b))
		}
	}
	quiet, other := math.NaN(), math.Float64frombits(0xfff8000000000005)
	minus := math.Copysign(0, -1)
	rows := []struct {
		a, b complex128
		want bool
	}{
		{complex(1, 2), complex(1, 2), true},
		{complex(1, 2), complex(2, 1), false},
		{complex(1, 2), complex(1, 3), false},
		{complex(1, 2), complex(3, 2), false},
		{0, complex(minus, 0), false},
		{0, complex(0, minus), false},
		{complex(minus, minus), complex(minus, minus), true},
		{complex(quiet, 1), complex(other, 1), true},
		{complex(1, quiet), complex(1, other), true},
		{complex(quiet, other), complex(other, quiet), true},
		{complex(quiet, 1), complex(other, 2), false},
		{complex(1, quiet), complex(2, other), false},
		{complex(quiet, 1), complex(1, quiet), false},
		{complex(quiet, 1), complex(1, 1), false},
		{complex(math.Inf(1), 0), complex(math.Inf(1), 0), true},
		{complex(math.Inf(1), 0), complex(math.Inf(-1), 0), false},
		{complex(math.Inf(1), 0), complex(quiet, 0), false},
		{complex(1, 0), complex(math.Nextafter(1, 2), 0), false},
	}
	for _, r := range rows {
		if Same(r.a, r.b) != r.want || Same(r.b, r.a) != r.want {
			t.Errorf("P2.1: Same(%v, %v): not %v", r.a, r.b, r.want)
		}
	}
}

func hasNaN(a complex128) bool {
	return real(a) != real(a) || imag(a) != imag(a)
}

func TestKeepsNoOrder(t *testing.T) {
	for _, p := range pairs() {
		a, b := p[0], p[1]
		if hasNaN(a) || hasNaN(b) {
			continue
		}
		if one, two := Add(a, b), Add(b, a); !Same(one, two) {
			t.Errorf("P2.3: Add(%v, %v): %v, %v", a, b, one, two)
		}
		if one, two := Mul(a, b), Mul(b, a); !Same(one, two) {
			t.Errorf("P2.3: Mul(%v, %v): %v, %v", a, b, one, two)
		}
	}
}
