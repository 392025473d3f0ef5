package num

import (
	"math"
	"math/big"
	"math/rand"
	"testing"

	"loom/api"
)

// edges: integers at which a sum, a product, a quotient or a text is at its bound.
func edges() []int64 {
	list := []int64{0, 1, 2, 3, 7, 9, 10, 11, 99, 100, 101, 1<<31 - 1, 1 << 31, 1<<32 - 1, 1 << 32, 3037000499, 3037000500, 1 << 62, math.MaxInt64 - 1, math.MaxInt64}
	for _, n := range list[:len(list):len(list)] {
		list = append(list, -n)
	}
	for p := int64(1000); p <= 1e18 && p > 0; p *= 10 {
		list = append(list, p-1, p, p+1, -p+1, -p, -p-1)
	}
	return append(list, math.MinInt64)
}

// pairs: all pairs of edges, and some of all sizes, always the same ones.
func pairs() [][2]int64 {
	var list [][2]int64
	for _, a := range edges() {
		for _, b := range edges() {
			list = append(list, [2]int64{a, b})
		}
	}
	source := rand.New(rand.NewSource(1))
	for range 20000 {
		a := int64(source.Uint64()) >> source.Intn(64)
		b := int64(source.Uint64()) >> source.Intn(64)
		list = append(list, [2]int64{a, b})
	}
	return list
}

// wrapped: what is left of n between -2^63 and 2^63 - 1, modulo 2^64.
func wrapped(n *big.Int) int64 {
	whole := new(big.Int).Lsh(big.NewInt(1), 64)
	rest := new(big.Int).Mod(n, whole)
	if rest.BitLen() == 64 {
		rest.Sub(rest, whole)
	}
	return rest.Int64()
}

func TestWraps(t *testing.T) {
	for _, p := range pairs() {
		a, b := big.NewInt(p[0]), big.NewInt(p[1])
		if got, want := Add(p[0], p[1]), wrapped(new(big.Int).Add(a, b)); got != want {
			t.Errorf("P1.1: Add(%d, %d): %d, not %d", a, b, got, want)
		}
		if got, want := Sub(p[0], p[1]), wrapped(new(big.Int).Sub(a, b)); got != want {
			t.Errorf("P1.1: Sub(%d, %d): %d, not %d", a, b, got, want)
		}
		if got, want := Mul(p[0], p[1]), wrapped(new(big.Int).Mul(a, b)); got != want {
			t.Errorf("P1.1: Mul(%d, %d): %d, not %d", a, b, got, want)
		}
		if got, want := Neg(p[0]), wrapped(new(big.Int).Neg(a)); got != want {
			t.Errorf("P1.1: Neg(%d): %d, not %d", a, got, want)
		}
	}
}

func TestWrapsAtTheBounds(t *testing.T) {
	const least, most = math.MinInt64, math.MaxInt64
	rows := []struct {
		name      string
		got, want int64
	}{
		{"Add(2^63-1, 1)", Add(most, 1), least},
		{"Add(-2^63, -1)", Add(least, -1), most},
		{"Add(-2^63, -2^63)", Add(least, least), 0},
		{"Sub(-2^63, 1)", Sub(least, 1), most},
		{"Sub(0, -2^63)", Sub(0, least), least},
		{"Sub(2^63-1, -1)", Sub(most, -1), least},
		{"Mul(-2^63, -1)", Mul(least, -1), least},
		{"Mul(2^63-1, 2^63-1)", Mul(most, most), 1},
		{"Mul(2^32, 2^32)", Mul(1<<32, 1<<32), 0},
		{"Neg(-2^63)", Neg(least), least},
		{"Neg(2^63-1)", Neg(most), -most},
		{"Neg(0)", Neg(0), 0},
	}
	for _, r := range rows {
		if r.got != r.want {
			t.Errorf("P1.1: %s: %d, not %d", r.name, r.got, r.want)
		}
	}
}

func TestDivides(t *testing.T) {
	for _, p := range pairs() {
		if p[1] == 0 {
			continue
		}
		a, b := big.NewInt(p[0]), big.NewInt(p[1])
		quo, rem := new(big.Int).QuoRem(a, b, new(big.Int))
		if got, err := Div(p[0], p[1]); got != wrapped(quo) || err != api.OK {
			t.Errorf("P1.1: Div(%d, %d): %d, %v, not %d", a, b, got, err, wrapped(quo))
		}
		if got, err := Rem(p[0], p[1]); got != wrapped(rem) || err != api.OK {
			t.Errorf("P1.1: Rem(%d, %d): %d, %v, not %d", a, b, got, err, wrapped(rem))
		}
	}
}

func TestDividesAtTheBounds(t *testing.T) {
	rows := []struct{ a, b, quotient, rest int64 }{
		{-7, 2, -3, -1},
		{7, -2, -3, 1},
		{-7, -2, 3, -1},
		{7, 2, 3, 1},
		{0, -1, 0, 0},
		{1, 2, 0, 1},
		{-1, 2, 0, -1},
		{math.MinInt64, -1, math.MinInt64, 0},
		{math.MinInt64, 1, math.MinInt64, 0},
		{math.MinInt64, math.MaxInt64, -1, -1},
		{math.MaxInt64, math.MinInt64, 0, math.MaxInt64},
		{math.MinInt64, math.MinInt64, 1, 0},
		{math.MaxInt64, -1, -math.MaxInt64, 0},
	}
	for _, r := range rows {
		if got, err := Div(r.a, r.b); got != r.quotient || err != api.OK {
			t.Errorf("P1.1: Div(%d, %d): %d, %v, not %d", r.a, r.b, got, err, r.quotient)
		}
		if got, err := Rem(r.a, r.b); got != r.rest || err != api.OK {
			t.Errorf("P1.1: Rem(%d, %d): %d, %v, not %d", r.a, r.b, got, err, r.rest)
		}
	}
}

func TestDividesByNought(t *testing.T) {
	for _, a := range edges() {
		if got, err := Div(a, 0); got != 0 || err != api.ErrArith {
			t.Errorf("P1.1: Div(%d, 0): %d, %v", a, got, err)
		}
		if got, err := Rem(a, 0); got != 0 || err != api.ErrArith {
			t.Errorf("P1.1: Rem(%d, 0): %d, %v", a, got, err)
		}
	}
}

func TestMakesTheWholeAgain(t *testing.T) {
	for _, p := range pairs() {
		a, b := p[0], p[1]
		if b == 0 {
			continue
		}
		quotient, _ := Div(a, b)
		rest, _ := Rem(a, b)
		if got := Add(Mul(quotient, b), rest); got != a {
			t.Errorf("P1.2: %d by %d: %d times it and %d make %d", a, b, quotient, rest, got)
		}
		// The rest is nearer to 0 than b, on a's side: without this any quotient would make the whole again.
		near := new(big.Int).Abs(big.NewInt(rest)).Cmp(new(big.Int).Abs(big.NewInt(b))) < 0
		if !near || rest != 0 && (rest < 0) != (a < 0) {
			t.Errorf("P1.2: %d by %d leaves %d", a, b, rest)
		}
	}
}

func TestCompares(t *testing.T) {
	for _, p := range pairs() {
		order := big.NewInt(p[0]).Cmp(big.NewInt(p[1]))
		less, same := int64(0), int64(0)
		if order < 0 {
			less = 1
		}
		if order == 0 {
			same = 1
		}
		if got := Less(p[0], p[1]); got != less {
			t.Errorf("P1.1: Less(%d, %d): %d", p[0], p[1], got)
		}
		if got := Same(p[0], p[1]); got != same {
			t.Errorf("P1.1: Same(%d, %d): %d", p[0], p[1], got)
		}
		if Same(p[0], p[0]) != 1 || Less(p[0], p[0]) != 0 {
			t.Errorf("P1.1: %d isn't the same as itself", p[0])
		}
	}
}
