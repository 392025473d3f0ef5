package lex

import (
	"slices"
	"strings"
	"testing"

	"loom/api"
)

func TestNames(t *testing.T) {
	names := []string{"_", "$", "__", "$$", "_1", "$1", "$a_9", "_$", "len", "Class", "CLASS", "main", "Object", "Fault", "a1b2", "c1", "i", "c", "e5", "x_", "x$", "aaaaaaaaaaaaaaaaaaaa", "_9999999999999999999", "$9999999999999999999", "azAZ_$09"}
	for _, b := range letters {
		names = append(names, string(b), string(b)+string(b), "x"+string(b), string(b)+"7")
	}
	for _, b := range digits {
		names = append(names, "x"+string(b), "$"+string(b)+string(b))
	}
	for _, s := range names {
		if s == "as" || s == "is" {
			continue
		}
		tells(t, s, token(api.KName, 0, s), end(len(s)))
		tells(t, " "+s+"\t", token(api.KName, 1, s), end(len(s)+2))
		tells(t, s+"."+s, token(api.KName, 0, s), token(api.KSign, len(s), "."), token(api.KName, len(s)+1, s), end(2*len(s)+1))
	}
}

func TestAsLongAsAName(t *testing.T) {
	const most = 20
	for _, b := range []string{"a", "Z", "_", "$"} {
		for size := 1; size <= 3*most; size++ {
			for _, s := range []string{strings.Repeat(b, size), b + strings.Repeat("9", size-1), "$" + strings.Repeat(b, size-1)} {
				if size > most {
					refuses(t, s, 0, api.ErrBig)
					refuses(t, "a="+s+";#", 2, api.ErrBig)
					continue
				}
				tells(t, s, token(api.KName, 0, s), end(size))
				tells(t, "; "+s, token(api.KSign, 0, ";"), token(api.KName, 2, s), end(size+2))
			}
		}
	}
	// A keyword ahead makes it no shorter.
	refuses(t, "class"+strings.Repeat("x", most-4), 0, api.ErrBig)
	s := "class" + strings.Repeat("x", most-5)
	tells(t, s, token(api.KName, 0, s), end(most))
}

func TestKeywordsAreTokens(t *testing.T) {
	if len(keywords) != 27 {
		t.Fatal("not all keywords are held against Word")
	}
	for _, s := range keywords {
		tells(t, s, token(api.KWord, 0, s), end(len(s)))
		tells(t, "\n"+s+";", token(api.KWord, 1, s), token(api.KSign, 1+len(s), ";"), end(len(s)+2))
		for _, like := range []string{s + "x", s + "_", s + "$", s + "9", "x" + s, "_" + s, "$" + s, s + s, strings.ToUpper(s), strings.ToUpper(s[:1]) + s[1:]} {
			if slices.Contains(keywords, like) {
				continue
			}
			tells(t, like, token(api.KName, 0, like), end(len(like)))
		}
	}
	for _, s := range keywords {
		for _, u := range keywords {
			tells(t, s+" "+u, token(api.KWord, 0, s), token(api.KWord, len(s)+1, u), end(len(s)+len(u)+1))
		}
	}
}

func holds(t *testing.T, s string) {
	t.Helper()
	if got := Word(s); got != slices.Contains(keywords, s) {
		t.Errorf("P18.2: Word(%q): %t", s, got)
	}
}

func TestWord(t *testing.T) {
	for _, s := range keywords {
		if !Word(s) {
			t.Errorf("P18.2: Word(%q): false", s)
		}
		holds(t, " "+s)
		holds(t, s+"\n")
		holds(t, strings.ToUpper(s))
	}
	for _, s := range append([]string{"", " ", "len", "main", "for", "do", "complex", "string", "bool", "true", "false", "super", "private", "synchronized", "Object", "Fault", "class extends"}, signs...) {
		if Word(s) {
			t.Errorf("P18.2: Word(%q): true", s)
		}
	}
}

// What differs from a keyword by one byte, put in, left out or turned, is one only if it is another one.
func TestWordByOneByte(t *testing.T) {
	for _, s := range keywords {
		for i := range len(s) + 1 {
			for b := range 256 {
				holds(t, s[:i]+string([]byte{byte(b)})+s[i:])
				if i < len(s) {
					holds(t, s[:i]+string([]byte{byte(b)})+s[i+1:])
				}
			}
			if i < len(s) {
				holds(t, s[:i]+s[i+1:])
				holds(t, s[:i])
			}
		}
	}
}

func TestWordOfShortTexts(t *testing.T) {
	for _, a := range letters {
		holds(t, string(a))
		for _, b := range letters {
			holds(t, string([]rune{a, b}))
			for _, c := range letters {
				holds(t, string([]rune{a, b, c}))
			}
		}
	}
}
