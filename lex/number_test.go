package lex

import (
	"math/big"
	"strings"
	"testing"

	"loom/api"
)

// integer: the token of these digits.
func integer(at int, text string) api.Token {
	n, ok := new(big.Int).SetString(text, 10)
	if !ok || !n.IsInt64() {
		panic("no integer: " + text)
	}
	return api.Token{Kind: api.KInt, At: at, Text: text, Int: n.Int64()}
}

// cplx: the token of these digits and a letter behind.
func cplx(at int, text string) api.Token {
	last := len(text) - 1
	n, ok := new(big.Float).SetPrec(200).SetString(text[:last])
	f, rounded := n.Float64()
	if !ok || rounded != big.Exact {
		panic("no complex number: " + text)
	}
	if text[last] == 'i' {
		return api.Token{Kind: api.KCplx, At: at, Text: text, Cplx: complex(0, f)}
	}
	return api.Token{Kind: api.KCplx, At: at, Text: text, Cplx: complex(f, 0)}
}

func TestNumbersByHand(t *testing.T) {
	rows := []struct {
		src  string
		kind int
		n    int64
		c    complex128
	}{
		{"0", api.KInt, 0, 0}, {"7", api.KInt, 7, 0}, {"007", api.KInt, 7, 0}, {"010", api.KInt, 10, 0}, {"1234567890", api.KInt, 1234567890, 0},
		{"999999999999999999", api.KInt, 999999999999999999, 0}, {"000000000000000000", api.KInt, 0, 0}, {"000000000000000009", api.KInt, 9, 0}, {"9007199254740993", api.KInt, 9007199254740993, 0},
		{"0c", api.KCplx, 0, 0}, {"0i", api.KCplx, 0, 0}, {"3c", api.KCplx, 0, 3}, {"3i", api.KCplx, 0, 3i}, {"20c", api.KCplx, 0, 20}, {"020i", api.KCplx, 0, 20i},
		{"999999999999999c", api.KCplx, 0, 999999999999999}, {"999999999999999i", api.KCplx, 0, 999999999999999i}, {"000000000000001c", api.KCplx, 0, 1}, {"000000000000000i", api.KCplx, 0, 0},
	}
	for _, r := range rows {
		tells(t, r.src, api.Token{Kind: r.kind, Text: r.src, Int: r.n, Cplx: r.c}, end(len(r.src)))
	}
}

func TestAsLongAsANumber(t *testing.T) {
	const most, mostCplx = 18, 15
	for size := 1; size <= 30; size++ {
		for _, s := range []string{strings.Repeat("9", size), strings.Repeat("1", size), strings.Repeat("0", size), strings.Repeat("0", size-1) + "5", "8" + strings.Repeat("0", size-1), strings.Repeat("1234567890", 3)[:size]} {
			if size > most {
				refuses(t, s, 0, api.ErrBig)
				refuses(t, "a "+s+";", 2, api.ErrBig)
			} else {
				tells(t, s, integer(0, s), end(size))
				tells(t, "-"+s+";", token(api.KSign, 0, "-"), integer(1, s), token(api.KSign, size+1, ";"), end(size+2))
			}
			for _, part := range []string{"c", "i"} {
				if size > mostCplx {
					refuses(t, s+part, 0, api.ErrBig)
					refuses(t, "a="+s+part+" 5x", 2, api.ErrBig)
				} else {
					tells(t, s+part, cplx(0, s+part), end(size+1))
					tells(t, "\t"+s+part+"*", cplx(1, s+part), token(api.KSign, size+2, "*"), end(size+3))
				}
			}
		}
	}
}

// What may not stand right behind a number; and too many digits come first.
func TestRightBehindANumber(t *testing.T) {
	for _, b := range letters + digits {
		behind := string(b)
		for _, s := range []string{"5", "0", "007", "123456789012345", "5c", "5i", "0c", "000000000000000i"} {
			isPart := behind == "c" || behind == "i"
			isDigit := strings.Contains(digits, behind)
			switch isOpen := strings.Trim(s, digits) == ""; {
			case isOpen && isPart:
				tells(t, s+behind, cplx(0, s+behind), end(len(s)+1))
			case isOpen && isDigit:
				tells(t, s+behind, integer(0, s+behind), end(len(s)+1))
			default:
				refuses(t, s+behind, 0, api.ErrToken)
				refuses(t, "a + "+s+behind+" #", 4, api.ErrToken)
				refuses(t, s+behind+strings.Repeat("1", 30), 0, api.ErrToken)
			}
		}
		if strings.Contains(letters, behind) {
			want := api.ErrToken
			if behind == "c" || behind == "i" {
				want = api.ErrBig
			}
			refuses(t, strings.Repeat("1", 16)+behind, 0, want)
			refuses(t, strings.Repeat("1", 18)+behind, 0, want)
			refuses(t, strings.Repeat("1", 19)+behind, 0, api.ErrBig)
		}
		for _, part := range []string{"c", "i"} {
			refuses(t, strings.Repeat("1", 15)+part+behind, 0, api.ErrToken)
			refuses(t, strings.Repeat("1", 16)+part+behind, 0, api.ErrBig)
			refuses(t, " "+strings.Repeat("0", 16)+part+behind, 1, api.ErrBig)
		}
	}
	refuses(t, "5class", 0, api.ErrToken)
	refuses(t, "5is", 0, api.ErrToken)
	refuses(t, "5ic", 0, api.ErrToken)
	refuses(t, "0x10", 0, api.ErrToken)
	refuses(t, "1e5", 0, api.ErrToken)
	refuses(t, "1_000", 0, api.ErrToken)
}

func TestWhatMayStandBehindANumber(t *testing.T) {
	for _, s := range signs {
		tells(t, "5"+s, integer(0, "5"), token(api.KSign, 1, s), end(1+len(s)))
		tells(t, "5c"+s, cplx(0, "5c"), token(api.KSign, 2, s), end(2+len(s)))
		tells(t, s+"5i", token(api.KSign, 0, s), cplx(len(s), "5i"), end(2+len(s)))
	}
	tells(t, "5 c", integer(0, "5"), token(api.KName, 2, "c"), end(3))
	tells(t, "5//c\ni", integer(0, "5"), token(api.KName, 5, "i"), end(6))
	tells(t, "5i//x", cplx(0, "5i"), end(5))
	tells(t, "1.5", integer(0, "1"), token(api.KSign, 1, "."), integer(2, "5"), end(3))
	tells(t, "x5c", token(api.KName, 0, "x5c"), end(3))
	tells(t, "5 is", integer(0, "5"), token(api.KWord, 2, "is"), end(4))
}
