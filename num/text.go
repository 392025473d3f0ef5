package num

import "math"

// sizeOfLeast: how far -2^63 is from 0. It is no int64, so sizes are uint64.
const sizeOfLeast = math.MaxInt64 + 1

// longest: how many bytes the text of -2^63 has.
const longest = 20

// Print tells n in decimal digits, with - below 0.
func Print(n int64) string {
	var text [longest]byte
	first := longest
	rest := uint64(n)
	if n < 0 {
		rest = -rest
	}
digit:
	first--
	text[first] = '0' + byte(rest%10)
	rest /= 10
	if rest > 0 {
		goto digit
	}
	if n < 0 {
		first--
		text[first] = '-'
	}
	return string(text[first:])
}

// Parse: the integer of which Print tells s, and true; 0 and false, if there is none.
func Parse(s string) (int64, bool) {
	var size uint64
	at, most := 0, uint64(math.MaxInt64)
	if s == "0" {
		return 0, true
	}
	if len(s) > 0 && s[0] == '-' {
		at, most = 1, sizeOfLeast
	}
	// Print begins no other integer with a 0, below 0 neither.
	if at == len(s) || s[at] == '0' {
		goto none
	}
digit:
	// A size of at most a tenth of most can't wrap by one digit more.
	if s[at] < '0' || s[at] > '9' || size > most/10 {
		goto none
	}
	size = size*10 + uint64(s[at]-'0')
	if size > most {
		goto none
	}
	at++
	if at < len(s) {
		goto digit
	}
	if s[0] == '-' {
		return Neg(int64(size)), true
	}
	return int64(size), true
none:
	return 0, false
}
