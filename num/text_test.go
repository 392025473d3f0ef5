package num

import (
	"math"
	"strconv"
	"strings"
	"testing"
)

func TestPrints(t *testing.T) {
	rows := []struct {
		n    int64
		text string
	}{
		{0, "0"},
		{7, "7"},
		{-1, "-1"},
		{10, "10"},
		{-100, "-100"},
		{math.MaxInt64, "9223372036854775807"},
		{math.MinInt64, "-9223372036854775808"},
	}
	for _, r := range rows {
		if got := Print(r.n); got != r.text {
			t.Errorf("P1.1: Print(%d): %q", r.n, got)
		}
	}
}

func TestParsesWhatItPrints(t *testing.T) {
	for _, p := range pairs() {
		text := Print(p[0])
		if text != strconv.FormatInt(p[0], 10) {
			t.Errorf("P1.1: Print(%d): %q", p[0], text)
		}
		if got, ok := Parse(text); got != p[0] || !ok {
			t.Errorf("P1.1: Parse(%q): %d, %v", text, got, ok)
		}
	}
}

func TestParsesNoOtherText(t *testing.T) {
	texts := []string{
		"", "-", "--", "+", " ", "0 ", " 0", "\x00", "0\x00", "1\n", "-0", "-00", "00", "01", "-01", "+1", "+0", "--1", "- 1", "-1-", "1-", "1-1",
		"1x", "x1", "0x1", "0b1", "0o7", "1_0", "1e1", "1.0", "1.", ".1", "1,000", "1/", "1:", "/", ":", "a", "\xff", "1\xb2", "\u0661", "\uff11",
		"9223372036854775808", "9223372036854775809", "9223372036854775810", "-9223372036854775809", "-9223372036854775810", "92233720368547758070", "-92233720368547758080",
		"18446744073709551615", "18446744073709551616", "18446744073709551617", "-18446744073709551615", "-18446744073709551616", "36893488147419103233",
		"00000000000000000000", "000000000000000000001", "99999999999999999999", "-99999999999999999999", strings.Repeat("1", 5000), "-" + strings.Repeat("9", 5000), strings.Repeat("0", 5000),
	}
	for _, s := range texts {
		if got, ok := Parse(s); got != 0 || ok {
			t.Errorf("P1.1: Parse(%q): %d, %v", s, got, ok)
		}
	}
}

// compareWithLibrary: the library reads more texts than Parse, but it prints the same ones.
func compareWithLibrary(t *testing.T, s string) {
	want, err := strconv.ParseInt(s, 10, 64)
	is := err == nil && strconv.FormatInt(want, 10) == s
	if !is {
		want = 0
	}
	if got, ok := Parse(s); got != want || ok != is {
		t.Errorf("P1.1: Parse(%q): %d, %v", s, got, ok)
	}
}

func TestParsesShortTexts(t *testing.T) {
	const bytes = "-+0159/: "
	texts := []string{""}
	for start := 0; len(texts[start]) < 4; start++ {
		for i := range len(bytes) {
			texts = append(texts, texts[start]+bytes[i:i+1])
		}
	}
	for _, s := range texts {
		compareWithLibrary(t, s)
	}
}

func FuzzParse(f *testing.F) {
	f.Add("-9223372036854775808")
	f.Fuzz(func(t *testing.T, s string) {
		compareWithLibrary(t, s)
	})
}
