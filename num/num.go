// Package num: integers that wrap: see doc/01-num.md.
package num

import (
	"loom/api"
)

// Add: the sum, modulo 2^64.
func Add(a, b int64) int64 { return a + b }

// Sub: the difference, modulo 2^64.
func Sub(a, b int64) int64 { return a - b }

// Mul: the product, modulo 2^64.
func Mul(a, b int64) int64 { return a * b }

// Neg: a taken from 0, modulo 2^64.
func Neg(a int64) int64 { return -a }

// Div: the quotient towards 0; ErrArith, if b is 0.
func Div(a, b int64) (int64, api.Errno) {
	if b == 0 {
		return 0, api.ErrArith
	}
	// -2^63 by -1 needs no case of its own: the language's quotient wraps.
	return a / b, api.OK
}

// Rem: what Div leaves of a; ErrArith, if b is 0.
func Rem(a, b int64) (int64, api.Errno) {
	quotient, err := Div(a, b)
	if err != api.OK {
		return 0, err
	}
	return Sub(a, Mul(b, quotient)), api.OK
}

// Less: 1, if a is below b; else 0.
func Less(a, b int64) int64 {
	if a < b {
		return 1
	}
	return 0
}

// Same: 1, if a is b; else 0.
func Same(a, b int64) int64 {
	if a == b {
		return 1
	}
	return 0
}
