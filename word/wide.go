package word

import (
	"math/bits"

	"cinder/api"
)

// wide holds a product of two words whole, the lowest 64 bits first.
type wide [8]uint64

func widen(a api.Word) wide {
	return wide{a[0], a[1], a[2], a[3]}
}

func (w wide) low() api.Word {
	return api.Word{w[0], w[1], w[2], w[3]}
}

func product(a, b api.Word) wide {
	var sum wide
	for i, x := range a {
		var carry uint64
		for j, y := range b {
			carry, sum[i+j] = mulAdd(x, y, sum[i+j], carry)
		}
		sum[i+len(b)] = carry
	}
	return sum
}

// mulAdd is x times y, and two more: even of the greatest numbers that is
// 2^128 - 1, so the high half never overflows.
func mulAdd(x, y, more, still uint64) (high, low uint64) {
	high, low = bits.Mul64(x, y)
	low, carry := bits.Add64(low, more, 0)
	high += carry
	low, carry = bits.Add64(low, still, 0)
	return high + carry, low
}

// divide gives 0 and 0, if b is 0: so every operation that divides has it.
func divide(a wide, b api.Word) (quotient wide, rest api.Word) {
	if b == (api.Word{}) {
		return quotient, rest
	}
	for i := bitLength(a[:]) - 1; i >= 0; i-- {
		// The rest is below b, but twice the rest may need one bit more than a
		// word has; then it is above b, and the subtraction wraps it right.
		twice, over := carryAdd(rest, rest)
		twice[0] |= bitAt(a[:], i)
		reduced, borrow := borrowSub(twice, b)
		if over == 0 && borrow == 1 {
			rest = twice
			continue
		}
		rest = reduced
		quotient[i/64] |= 1 << (i % 64)
	}
	return quotient, rest
}

// bitLength is how many bits the number has at the least.
func bitLength(number []uint64) int {
	for i := len(number) - 1; i >= 0; i-- {
		if number[i] != 0 {
			return 64*i + bits.Len64(number[i])
		}
	}
	return 0
}

func bitAt(number []uint64, i int) uint64 {
	return number[i/64] >> (i % 64) & 1
}
