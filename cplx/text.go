package cplx

import (
	"math"
	"strings"

	"loom/api"
)

const (
	mark   = 'c'
	digits = "0123456789abcdef"
	// width: how many digits the bits of one part have.
	width = 16
	// length: how many bytes the text of a number has.
	length = 1 + 2*width
)

// Print tells a: c, the bits of its real part, those of its imaginary one.
func Print(a complex128) string {
	text := make([]byte, 0, length)
	text = append(text, mark)
	text = appendPart(text, real(a))
	text = appendPart(text, imag(a))
	return string(text)
}

// Parse: the number of which Print tells s; ErrCplx, if there is none.
func Parse(s string) (complex128, api.Errno) {
	if len(s) != length || s[0] != mark {
		return 0, api.ErrCplx
	}
	re, reIs := readPart(s[1 : 1+width])
	im, imIs := readPart(s[1+width:])
	if !reIs || !imIs {
		return 0, api.ErrCplx
	}
	return complex(re, im), api.OK
}

func appendPart(text []byte, part float64) []byte {
	bits := math.Float64bits(part)
	for range width {
		text = append(text, digits[bits>>60])
		bits <<= 4
	}
	return text
}

// readPart: the part of which all of text are the digits, and true; 0 and false, if one byte is no digit.
func readPart(text string) (float64, bool) {
	var bits uint64
	for i := range len(text) {
		digit := strings.IndexByte(digits, text[i])
		if digit < 0 {
			return 0, false
		}
		bits = bits<<4 | uint64(digit)
	}
	return math.Float64frombits(bits), true
}
