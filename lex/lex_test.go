package lex

import (
	"math"
	"slices"
	"strings"
	"testing"

	"loom/api"
)

// keywords: all of them.
var keywords = strings.Fields("class extends volatile int cpx ints void if else while return throw try catch sync wait notify notifyall yield join out null this new spawn as is")

// signs: all of them.
var signs = strings.Fields("{ } ( ) [ ] ; , . = == != < + - * / % ~")

const (
	letters = "abcdefghijklmnopqrstuvwxyzABCDEFGHIJKLMNOPQRSTUVWXYZ_$"
	digits  = "0123456789"
)

// sameToken: alike in all, Cplx by its bits.
func sameToken(a, b api.Token) bool {
	return a.Kind == b.Kind && a.At == b.At && a.Text == b.Text && a.Int == b.Int &&
		math.Float64bits(real(a.Cplx)) == math.Float64bits(real(b.Cplx)) && math.Float64bits(imag(a.Cplx)) == math.Float64bits(imag(b.Cplx))
}

// short: src, or how it begins.
func short(src string) string {
	if len(src) > 60 {
		return src[:60] + " .."
	}
	return src
}

// tells: just these tokens of src.
func tells(t testing.TB, src string, want ...api.Token) {
	t.Helper()
	l, at, err := All(src)
	if !slices.EqualFunc(l, want, sameToken) || at != 0 || err != api.OK {
		t.Errorf("P18.1: %q: %v at %d: %+v, not %+v", short(src), err, at, l, want)
	}
}

// refuses: this error of src at that place, and no tokens.
func refuses(t testing.TB, src string, wantAt int, want api.Errno) {
	t.Helper()
	l, at, err := All(src)
	if len(l) != 0 || at != wantAt || err != want {
		t.Errorf("P18.1: %q: %v at %d, %d tokens; not %v at %d", short(src), err, at, len(l), want, wantAt)
	}
}

func token(kind, at int, text string) api.Token {
	return api.Token{Kind: kind, At: at, Text: text}
}

func end(at int) api.Token { return api.Token{Kind: api.KEnd, At: at} }

func TestTheExample(t *testing.T) {
	tells(t, "x=3i", token(api.KName, 0, "x"), token(api.KSign, 1, "="), api.Token{Kind: api.KCplx, At: 2, Text: "3i", Cplx: complex(0, 3)}, end(4))
}

func TestTellsASource(t *testing.T) {
	tells(t, "class A {\n\tint x; // one\n\tvoid f() { out(12*this.x); }\r\n}\n",
		token(api.KWord, 0, "class"), token(api.KName, 6, "A"), token(api.KSign, 8, "{"),
		token(api.KWord, 11, "int"), token(api.KName, 15, "x"), token(api.KSign, 16, ";"),
		token(api.KWord, 26, "void"), token(api.KName, 31, "f"), token(api.KSign, 32, "("), token(api.KSign, 33, ")"), token(api.KSign, 35, "{"),
		token(api.KWord, 37, "out"), token(api.KSign, 40, "("), api.Token{Kind: api.KInt, At: 41, Text: "12", Int: 12}, token(api.KSign, 43, "*"),
		token(api.KWord, 44, "this"), token(api.KSign, 48, "."), token(api.KName, 49, "x"), token(api.KSign, 50, ")"), token(api.KSign, 51, ";"),
		token(api.KSign, 53, "}"), token(api.KSign, 56, "}"), end(58))
}

func TestNothingIsAnEndAlone(t *testing.T) {
	for _, src := range []string{"", " ", "\t", "\n", "\r", " \t\n\r", "\r\n\r\n", "//", "///", "//\n", "// a", "// a\n", "//a\n//b", "//a\n//b\n ", " // \t//\r", "//#!\x00\xff\"5x"} {
		tells(t, src, end(len(src)))
	}
}

// A byte is a blank, a token or how one begins, or none.
func TestEachByte(t *testing.T) {
	for b := range 256 {
		s := string([]byte{byte(b)})
		isBlank := b == 9 || b == 10 || b == 13 || b == 32
		if isBlank {
			tells(t, s, end(1))
			tells(t, s+s, end(2))
			tells(t, "a"+s+"b", token(api.KName, 0, "a"), token(api.KName, 2, "b"), end(3))
			tells(t, "="+s+"=", token(api.KSign, 0, "="), token(api.KSign, 2, "="), end(3))
			tells(t, "1"+s+"2", api.Token{Kind: api.KInt, Text: "1", Int: 1}, api.Token{Kind: api.KInt, At: 2, Text: "2", Int: 2}, end(3))
			continue
		}
		if strings.Contains(letters+digits, s) || slices.Contains(signs, s) {
			if l, _, err := All(s); len(l) != 2 || err != api.OK || l[0].Text != s {
				t.Errorf("P18.1: %q: %v, %v", s, l, err)
			}
			continue
		}
		refuses(t, s, 0, api.ErrToken)
		refuses(t, " a"+s+"b", 2, api.ErrToken)
		refuses(t, "a b = "+s, 6, api.ErrToken)
		refuses(t, "5"+s, 1, api.ErrToken)
		refuses(t, "5i"+s+"6c", 2, api.ErrToken)
		tells(t, "//"+s, end(3))
	}
}

func TestNoTokensOfWhatIsNone(t *testing.T) {
	for _, src := range []string{"#", ">", "&", "|", "^", "?", ":", "@", "'", "\"", "`", "\\", "!", "\x00", "\x0b", "\x0c", "\x7f", "\x80", "\xff", "\u00e9", "\u00a0", "\ufeff", "\u0661", "!!=", "!a", "! =", "!\n="} {
		refuses(t, src, 0, api.ErrToken)
		refuses(t, "ab "+src, 3, api.ErrToken)
		refuses(t, "//#\n1 == "+src+" b", 9, api.ErrToken)
	}
	// The first thing along the bytes is the one that is told.
	refuses(t, "# "+strings.Repeat("a", 21), 0, api.ErrToken)
	refuses(t, strings.Repeat("a", 21)+" #", 0, api.ErrBig)
	refuses(t, "a 5x "+strings.Repeat("1", 19), 2, api.ErrToken)
	refuses(t, "a "+strings.Repeat("1", 19)+" 5x", 2, api.ErrBig)
}

func TestSigns(t *testing.T) {
	for _, s := range signs {
		tells(t, s, token(api.KSign, 0, s), end(len(s)))
		tells(t, "\n"+s+" ", token(api.KSign, 1, s), end(len(s)+2))
		tells(t, "a"+s+"b", token(api.KName, 0, "a"), token(api.KSign, 1, s), token(api.KName, 1+len(s), "b"), end(len(s)+2))
		for _, u := range signs {
			if s == "=" && (u == "=" || u == "==") || s+u == "//" {
				continue
			}
			tells(t, s+u, token(api.KSign, 0, s), token(api.KSign, len(s), u), end(len(s)+len(u)))
		}
	}
}

func TestTheLongestSign(t *testing.T) {
	rows := []struct{ src, want string }{
		{"=", "="}, {"==", "=="}, {"===", "== ="}, {"====", "== =="}, {"=====", "== == ="},
		{"!=", "!="}, {"!==", "!= ="}, {"!===", "!= =="}, {"=!=", "= !="}, {"==!=", "== !="}, {"!=!=", "!= !="}, {"a= =b", "a = = b"}, {"a==", "a =="}, {"a!=", "a !="},
		{"<=", "< ="}, {"<==", "< =="}, {"..", ". ."}, {"--", "- -"}, {"/", "/"}, {"/ /", "/ /"}, {"a/", "a /"}, {"a/b", "a / b"}, {"/=", "/ ="}, {"/\n/", "/ /"}, {"/*", "/ *"}, {"*/", "* /"}, {"/ //", "/"}, {"*//", "*"},
	}
	for _, r := range rows {
		l, at, err := All(r.src)
		var texts []string
		for _, k := range l {
			texts = append(texts, k.Text)
		}
		if got := strings.Join(texts, " "); got != r.want+" " || at != 0 || err != api.OK {
			t.Errorf("P18.1: %q: %q, %v at %d", r.src, got, err, at)
		}
	}
	for _, s := range []string{"!", "==!", "!=!", "a !", "/!"} {
		refuses(t, s, len(s)-1, api.ErrToken)
		refuses(t, s+" =", len(s)-1, api.ErrToken)
	}
}

func TestNotes(t *testing.T) {
	a, b := token(api.KName, 0, "a"), token(api.KName, 0, "b")
	rows := []struct {
		src string
		at  int // b's place; 0: there is none
	}{
		{"a//", 0}, {"a//b", 0}, {"a// b", 0}, {"a//b//b", 0}, {"a//\rb", 0}, {"a//\x00\xff#!5x b", 0}, {"a//b\n", 0}, {"a//b\n//b", 0}, {"a//b\n//b\n", 0}, {"a ///b", 0},
		{"a//\nb", 4}, {"a//b\nb", 5}, {"a//b\n//b\nb", 9}, {"a//b\n\n//b\n b", 11}, {"a//" + strings.Repeat("#", 500) + "\nb", 504}, {"a//" + strings.Repeat("1", 30) + "\r\nb", 35}, {"a // // /\nb", 10},
	}
	for _, r := range rows {
		if r.at == 0 {
			tells(t, r.src, a, end(len(r.src)))
			continue
		}
		b.At = r.at
		tells(t, r.src, a, b, end(r.at+1))
		// What a note hides may be anything: what stands behind its line is told as ever.
		refuses(t, r.src+"!", r.at+1, api.ErrToken)
	}
}

func TestAsLongAsASource(t *testing.T) {
	const most = 8000
	for _, s := range []string{" ", "\n", ";", "a", "1", "#", "/", "a ", "1+", "==", "//\n", "x=3i;\n", "// note 5x #\n"} {
		src := strings.Repeat(s, most/len(s)+2)
		refuses(t, src[:most+1], 0, api.ErrBig)
		refuses(t, src, 0, api.ErrBig)
	}
	tells(t, strings.Repeat(" ", most), end(most))
	tells(t, "//"+strings.Repeat("#", most-2), end(most))
	tells(t, strings.Repeat(" ", most-1)+"a", token(api.KName, most-1, "a"), end(most))
	refuses(t, strings.Repeat(" ", most-1)+"#", most-1, api.ErrToken)
	refuses(t, strings.Repeat("a", most), 0, api.ErrBig)
	refuses(t, strings.Repeat("1", most), 0, api.ErrBig)
	var want []api.Token
	for at := range most {
		want = append(want, token(api.KSign, at, ";"))
	}
	tells(t, strings.Repeat(";", most), append(want, end(most))...)
	want = nil
	for at := 0; at < most; at += 2 {
		want = append(want, token(api.KName, at, "a"))
	}
	tells(t, strings.Repeat("a ", most/2), append(want, end(most))...)
}
