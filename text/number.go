package text

import (
	"math/bits"
	"strings"

	"cinder/api"
	"cinder/opcode"
)

// readNumber gives ErrText for what is no number, even if its digits come to
// too much: only a number can be too great.
func readNumber(s string) (api.Word, api.Errno) {
	digits, base := s, uint64(10)
	if rest, ok := strings.CutPrefix(s, "0x"); ok {
		digits, base = rest, 16
	}
	var number api.Word
	big := false
	for _, r := range digits {
		d := digit(r)
		if d >= base {
			return api.Word{}, api.ErrText
		}
		var over bool
		number, over = timesPlus(number, base, d)
		big = big || over
	}
	switch {
	case digits == "":
		return api.Word{}, api.ErrText
	case big:
		return api.Word{}, api.ErrBig
	}
	return number, api.OK
}

// digit gives what the rune stands for, or 16, which is a digit of no base.
func digit(r rune) uint64 {
	switch {
	case '0' <= r && r <= '9':
		return uint64(r - '0')
	case 'a' <= r && r <= 'f':
		return uint64(r-'a') + 10
	}
	return 16
}

// timesPlus gives w times base plus d, and whether that is more than a word.
func timesPlus(w api.Word, base, d uint64) (api.Word, bool) {
	carry := d
	for i := range w {
		high, low := bits.Mul64(w[i], base)
		sum, more := bits.Add64(low, carry, 0)
		w[i] = sum
		carry = high + more
	}
	return w, carry != 0
}

// push gives the code that lays the number, with no more bytes than it has.
func push(number api.Word) []byte {
	code := []byte{opcode.Push0}
	for i := 31; i >= 0; i-- {
		b := byte(number[i/8] >> (i % 8 * 8))
		if b != 0 || len(code) > 1 {
			code = append(code, b)
			code[0]++
		}
	}
	return code
}
