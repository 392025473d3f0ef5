package cplx

import (
	"fmt"
	"math"
	"strings"
	"testing"

	"loom/api"
)

func TestPrints(t *testing.T) {
	rows := []struct {
		a    complex128
		text string
	}{
		{0, "c00000000000000000000000000000000"},
		{complex(1, 2), "c3ff00000000000004000000000000000"},
		{complex(0, math.Copysign(0, -1)), "c00000000000000008000000000000000"},
		{complex(math.Inf(1), math.Inf(-1)), "c7ff0000000000000fff0000000000000"},
		{complex(math.SmallestNonzeroFloat64, -math.MaxFloat64), "c0000000000000001ffefffffffffffff"},
		{complex(math.Float64frombits(0x0123456789abcdef), math.Float64frombits(0x7edcba9876543210)), "c0123456789abcdef7edcba9876543210"},
		{complex(math.Float64frombits(0xfff8000000000005), math.Float64frombits(0x7fffffffffffffff)), "cfff80000000000057fffffffffffffff"},
	}
	for _, r := range rows {
		if got := Print(r.a); got != r.text {
			t.Errorf("P2.2: Print(%v): %q", r.a, got)
		}
	}
}

func TestParsesWhatItPrints(t *testing.T) {
	for _, a := range numbers() {
		text := Print(a)
		if want := fmt.Sprintf("c%016x%016x", math.Float64bits(real(a)), math.Float64bits(imag(a))); text != want {
			t.Errorf("P2.2: Print(%v): %q, not %q", a, text, want)
		}
		if got, err := Parse(text); !Same(got, a) || err != api.OK || Print(got) != text {
			t.Errorf("P2.2: Parse(%q): %v, %d", text, got, err)
		}
	}
}

func refuse(t *testing.T, s string) {
	t.Helper()
	if got, err := Parse(s); !Same(got, 0) || err != api.ErrCplx {
		t.Errorf("P2.2: Parse(%q): %v, %d", s, got, err)
	}
}

func TestParsesNoOtherText(t *testing.T) {
	good := Print(complex(1, -2))
	texts := []string{
		"", "c", "C", "0", "i", "1", "(1+2i)", good[1:], good[:len(good)-1], good[:1+width], good + "0", good + "\x00", good + " ", " " + good, " " + good[1:],
		"C" + good[1:], "d" + good[1:], "\x00" + good[1:], "c0x" + good[3:], "c+" + good[2:], "c-" + good[2:], good[:17] + "+" + good[18:], good[:17] + " " + good[18:],
		good + good, "c" + good, strings.Repeat("0", length), "c" + strings.Repeat("\u0661", width), strings.Repeat("c", 5000), "c" + strings.Repeat("0", 5000),
	}
	for _, s := range texts {
		refuse(t, s)
	}
}

func TestParsesDigitsAlone(t *testing.T) {
	good := Print(complex(math.Pi, -math.E))
	for at := 1; at < length; at++ {
		for b := range 256 {
			s := good[:at] + string([]byte{byte(b)}) + good[at+1:]
			if b >= '0' && b <= '9' || b >= 'a' && b <= 'f' {
				if got, err := Parse(s); err != api.OK || Print(got) != s {
					t.Errorf("P2.2: Parse(%q): %v, %d", s, got, err)
				}
				continue
			}
			refuse(t, s)
		}
	}
}

func FuzzParse(f *testing.F) {
	f.Add("c3ff00000000000004000000000000000")
	f.Fuzz(func(t *testing.T, s string) {
		got, err := Parse(s)
		if err == api.OK && Print(got) != s {
			t.Errorf("P2.2: Parse(%q): %v", s, got)
		}
		if err != api.OK && (err != api.ErrCplx || !Same(got, 0)) {
			t.Errorf("P2.2: Parse(%q): %v, %d", s, got, err)
		}
	})
}
