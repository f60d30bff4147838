package word

import "cinder/api"

func and(a, b api.Word) api.Word {
	for i := range a {
		a[i] &= b[i]
	}
	return a
}

func or(a, b api.Word) api.Word {
	for i := range a {
		a[i] |= b[i]
	}
	return a
}

func xor(a, b api.Word) api.Word {
	for i := range a {
		a[i] ^= b[i]
	}
	return a
}

func not(a api.Word) api.Word {
	for i := range a {
		a[i] = ^a[i]
	}
	return a
}

func byteAt(a, b api.Word) api.Word {
	if !below(a, 32) {
		return api.Word{}
	}
	moved := shr(api.Word{8 * (31 - a[0])}, b)
	return api.Word{moved[0] & 255}
}

func shl(a, b api.Word) api.Word {
	var moved api.Word
	if !below(a, 256) {
		return moved
	}
	limbs, rest := int(a[0]/64), a[0]%64
	for i := limbs; i < len(moved); i++ {
		moved[i] = b[i-limbs] << rest
		if i > limbs {
			moved[i] |= b[i-limbs-1] >> (64 - rest)
		}
	}
	return moved
}

func shr(a, b api.Word) api.Word {
	var moved api.Word
	if !below(a, 256) {
		return moved
	}
	limbs, rest := int(a[0]/64), a[0]%64
	for i := limbs; i < len(moved); i++ {
		moved[i-limbs] = b[i] >> rest
		if i+1 < len(moved) {
			moved[i-limbs] |= b[i+1] << (64 - rest)
		}
	}
	return moved
}

// sar turns a negative number over and back: the bits that move in are then
// ones, which rounds down, and no shift is too great for it.
func sar(a, b api.Word) api.Word {
	if negative(b) {
		return not(shr(a, not(b)))
	}
	return shr(a, b)
}
