package word

import (
	"math/bits"

	"cinder/api"
)

// carryAdd gives the carry too, for sums that are not wrapped.
func carryAdd(a, b api.Word) (api.Word, uint64) {
	var sum api.Word
	var carry uint64
	for i := range sum {
		sum[i], carry = bits.Add64(a[i], b[i], carry)
	}
	return sum, carry
}

// borrowSub gives the borrow too: it is 1 just where a is below b.
func borrowSub(a, b api.Word) (api.Word, uint64) {
	var rest api.Word
	var borrow uint64
	for i := range rest {
		rest[i], borrow = bits.Sub64(a[i], b[i], borrow)
	}
	return rest, borrow
}

func add(a, b api.Word) api.Word {
	sum, _ := carryAdd(a, b)
	return sum
}

func sub(a, b api.Word) api.Word {
	rest, _ := borrowSub(a, b)
	return rest
}

func mul(a, b api.Word) api.Word {
	return product(a, b).low()
}

func div(a, b api.Word) api.Word {
	quotient, _ := divide(widen(a), b)
	return quotient.low()
}

func mod(a, b api.Word) api.Word {
	_, rest := divide(widen(a), b)
	return rest
}

// sdiv needs no case for the least number by -1: its magnitude is itself,
// and the quotient wraps round to it again.
func sdiv(a, b api.Word) api.Word {
	quotient := div(magnitude(a), magnitude(b))
	if negative(a) != negative(b) {
		return negate(quotient)
	}
	return quotient
}

func smod(a, b api.Word) api.Word {
	rest := mod(magnitude(a), magnitude(b))
	if negative(a) {
		return negate(rest)
	}
	return rest
}

func addmod(a, b, c api.Word) api.Word {
	sum, carry := carryAdd(a, b)
	whole := widen(sum)
	whole[4] = carry
	_, rest := divide(whole, c)
	return rest
}

func mulmod(a, b, c api.Word) api.Word {
	_, rest := divide(product(a, b), c)
	return rest
}

// exp goes through the bits of b from the highest, squaring at each: a loop
// of b steps might not end in any time.
func exp(a, b api.Word) api.Word {
	power := api.Word{1}
	for i := bitLength(b[:]) - 1; i >= 0; i-- {
		power = mul(power, power)
		if bitAt(b[:], i) == 1 {
			power = mul(power, a)
		}
	}
	return power
}

// signextend lifts the sign bit to the top, so that sar spreads it on its way
// back.
func signextend(a, b api.Word) api.Word {
	if !below(a, 31) {
		return b
	}
	lift := api.Word{248 - 8*a[0]}
	return sar(lift, shl(lift, b))
}

func negative(a api.Word) bool {
	return a[3]>>63 == 1
}

func negate(a api.Word) api.Word {
	return sub(api.Word{}, a)
}

func magnitude(a api.Word) api.Word {
	if negative(a) {
		return negate(a)
	}
	return a
}
