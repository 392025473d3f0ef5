package lex

import (
	"math/rand"
	"slices"
	"strings"
	"testing"

	"loom/api"
)

func prints(t testing.TB, want string, l ...api.Token) {
	t.Helper()
	if got := Print(l); got != want {
		t.Errorf("P18.2: Print(%#v): %q, not %q", l, got, want)
	}
}

func TestPrints(t *testing.T) {
	a, b, none := token(api.KName, 0, "a"), token(api.KSign, 9, "=="), token(api.KName, 0, "")
	prints(t, "")
	prints(t, "", end(0))
	prints(t, "", end(5), end(0), end(7))
	prints(t, "", token(api.KEnd, 0, "a"))
	prints(t, "a", a)
	prints(t, "a", a, end(1))
	prints(t, "a == a", a, b, a)
	prints(t, "a ==", end(0), a, end(0), end(0), b, end(0))
	prints(t, "a a", a, token(api.KEnd, 1, "=="), a)
	// An empty text is one of the texts.
	prints(t, "", none)
	prints(t, " ", none, none)
	prints(t, "a ", a, none)
	prints(t, " a", none, a)
	prints(t, "  ", none, none, end(0), none)
	// Texts that no token has, kinds that there aren't: Text alone counts, and whether it is an end.
	prints(t, "# a b \n \x00\xff //", token(0, 0, "#"), token(-1, 0, "a b"), token(99, -5, "\n"), token(api.KInt, 0, "\x00\xff"), api.Token{Kind: api.KCplx, Text: "//", Int: 7, Cplx: 3i})
	prints(t, " ", api.Token{Kind: api.KInt, Int: 7}, api.Token{Kind: api.KCplx, Cplx: 3i})
	if Print([]api.Token{}) != "" {
		t.Error("P18.2: of no tokens")
	}
}

func TestPrintsDrawnLists(t *testing.T) {
	source := rand.New(rand.NewSource(1))
	for range 20000 {
		var l []api.Token
		var texts []string
		for range source.Intn(8) {
			k := api.Token{Kind: source.Intn(9) - 1, At: source.Intn(100) - 50, Int: source.Int63(), Cplx: complex(source.NormFloat64(), 1)}
			for range source.Intn(4) {
				k.Text += string([]byte{byte(source.Intn(256))})
			}
			l = append(l, k)
			if k.Kind != api.KEnd {
				texts = append(texts, k.Text)
			}
		}
		prints(t, strings.Join(texts, " "), l...)
	}
	many := slices.Repeat([]api.Token{token(api.KName, 0, "ab"), end(0)}, 100000)
	prints(t, strings.TrimSuffix(strings.Repeat("ab ", 100000), " "), many...)
}

// comesBack: what Print tells of src's tokens has the same ones, each where its text now stands.
func comesBack(t testing.TB, src string) {
	t.Helper()
	l, _, err := All(src)
	printed := Print(l)
	if err != api.OK || len(printed) > api.MaxSource {
		return
	}
	at := 0
	for i := range l {
		if i == len(l)-1 {
			at = len(printed)
		}
		l[i].At = at
		at += len(l[i].Text) + 1
	}
	again, place, err := All(printed)
	if !slices.EqualFunc(again, l, sameToken) || place != 0 || err != api.OK {
		t.Errorf("P18.3: %q: %q: %v, %v at %d", short(src), short(printed), again, err, place)
	}
	if Print(again) != printed {
		t.Errorf("P18.3: %q: %q, then %q", short(src), short(printed), short(Print(again)))
	}
}

func TestWhatIsPrintedComesBack(t *testing.T) {
	pieces := slices.Concat(keywords, signs, []string{"a", "_", "$x9", "Class", "aaaaaaaaaaaaaaaaaaaa", "0", "007", "999999999999999999", "3c", "3i", "000000000000001i", "//\n", "// a = b\n"})
	for _, s := range append(pieces, "", " \n", "x=3i", "//", "x=3i// no\n;/ /") {
		comesBack(t, s)
	}
	for _, s := range pieces {
		for _, u := range pieces {
			comesBack(t, s+u)
			comesBack(t, s+" "+u)
			comesBack(t, s+"\n"+u+" "+s)
		}
	}
	source := rand.New(rand.NewSource(2))
	for range 2000 {
		var src strings.Builder
		for range source.Intn(40) {
			src.WriteString(pieces[source.Intn(len(pieces))])
			src.WriteString([]string{"", " ", "\t", "\r\n", "  "}[source.Intn(5)])
		}
		comesBack(t, src.String())
	}
	// As many signs as what is printed has room for.
	comesBack(t, strings.Repeat(";", api.MaxSource/2))
	comesBack(t, strings.Repeat("a ", api.MaxSource/2))
	comesBack(t, strings.Repeat("a ", api.MaxSource/2-1)+"bb")
	refuses(t, Print(slices.Repeat([]api.Token{token(api.KSign, 0, ";")}, api.MaxSource/2+1)), 0, api.ErrBig)
}
