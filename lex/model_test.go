package lex

import (
	"math/rand"
	"regexp"
	"slices"
	"strings"
	"testing"

	"loom/api"
)

// What a rest of a source may begin with, told as patterns.
var (
	patternOfGap    = regexp.MustCompile(`^([ \t\n\r]|//[^\n]*)+`)
	patternOfName   = regexp.MustCompile(`^[A-Za-z_$][A-Za-z_$0-9]*`)
	patternOfNumber = regexp.MustCompile(`^([0-9]+)([ci]?)([A-Za-z_$0-9]?)`)
	patternOfSign   = regexp.MustCompile(`^(==|!=|[{}()\[\];,.=<+*/%~-])`)
)

// modelNumber: the token of these digits with that letter, or none, ahead of that byte, or nothing.
func modelNumber(at int, digits, part, behind string) (api.Token, api.Errno) {
	switch {
	case len(digits) > 18 || part != "" && len(digits) > 15:
		return api.Token{}, api.ErrBig
	case behind != "":
		return api.Token{}, api.ErrToken
	case part != "":
		return cplx(at, digits+part), api.OK
	}
	return integer(at, digits), api.OK
}

func modelToken(src string, at int) (api.Token, api.Errno) {
	rest := src[at:]
	if s := patternOfName.FindString(rest); s != "" {
		switch {
		case len(s) > 20:
			return api.Token{}, api.ErrBig
		case slices.Contains(keywords, s):
			return token(api.KWord, at, s), api.OK
		}
		return token(api.KName, at, s), api.OK
	}
	if m := patternOfNumber.FindStringSubmatch(rest); m != nil {
		return modelNumber(at, m[1], m[2], m[3])
	}
	if s := patternOfSign.FindString(rest); s != "" {
		return token(api.KSign, at, s), api.OK
	}
	return api.Token{}, api.ErrToken
}

// model: what All should tell.
func model(src string) ([]api.Token, int, api.Errno) {
	if len(src) > 8000 {
		return nil, 0, api.ErrBig
	}
	var l []api.Token
	at := 0
	for {
		at += len(patternOfGap.FindString(src[at:]))
		if at == len(src) {
			return append(l, end(at)), 0, api.OK
		}
		k, err := modelToken(src, at)
		if err != api.OK {
			return nil, at, err
		}
		l = append(l, k)
		at += len(k.Text)
	}
}

// agrees: All tells what the model does, and what it tells comes back.
func agrees(t testing.TB, src string) {
	t.Helper()
	want, wantAt, wantErr := model(src)
	if wantErr != api.OK {
		refuses(t, src, wantAt, wantErr)
		return
	}
	tells(t, src, want...)
	comesBack(t, src)
}

func TestAgreesOnShortTexts(t *testing.T) {
	const bytes = "ac1i=!/ \n#"
	texts := []string{""}
	for start := 0; len(texts[start]) < 5; start++ {
		agrees(t, texts[start])
		for i := range len(bytes) {
			texts = append(texts, texts[start]+bytes[i:i+1])
		}
	}
}

func TestAgreesOnTwoBytes(t *testing.T) {
	for a := range 256 {
		for b := range 256 {
			agrees(t, string([]byte{byte(a), byte(b)}))
			agrees(t, "x"+string([]byte{byte(a), byte(b)})+"5")
		}
	}
}

func TestAgreesOnDrawnTexts(t *testing.T) {
	pieces := slices.Concat(keywords, signs, []string{" ", "\n", "\t", "\r", "//", "// a\n", "/", "!", "#", "\x00", "\xff", "a", "_", "$", "0", "9", "5c", "5i", "c", "i", "11111", "aaaaa", "00000", "99999999"})
	source := rand.New(rand.NewSource(3))
	for n := range 30000 {
		var src strings.Builder
		for range source.Intn(30) {
			// Of every other text each piece is one that begins no fault by itself.
			if s := pieces[source.Intn(len(pieces))]; n%2 == 0 || !strings.Contains("!#\x00\xff", s) {
				src.WriteString(s)
			}
			if source.Intn(3) == 0 {
				src.WriteByte(' ')
			}
		}
		agrees(t, src.String())
	}
}

func FuzzAll(f *testing.F) {
	for _, s := range []string{"x=3i", "class A extends B { volatile int x; } // end", "a==b!=c=d", "1111111111111111c", "5_", "a//\n!", "\xff"} {
		f.Add(s)
	}
	f.Fuzz(func(t *testing.T, s string) {
		agrees(t, s)
	})
}
