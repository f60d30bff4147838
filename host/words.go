package host

import (
	"cmp"

	"cinder/api"
	"cinder/word"
)

const wordBytes = 32

// zero is never assigned: words are compared with it.
var zero = api.Word{}

func small(n int) api.Word {
	return api.Word{uint64(n)}
}

func compare(a, b api.Word) int {
	for i := len(a) - 1; i > 0; i-- {
		if a[i] != b[i] {
			return cmp.Compare(a[i], b[i])
		}
	}
	return cmp.Compare(a[0], b[0])
}

// reckon is for operations that there are, so it has no error to tell.
func reckon(op uint8, a, b api.Word) api.Word {
	result, _ := word.Calc(op, a, b, zero)
	return result
}

// upTo gives the word as an int, if it is not above the bound.
func upTo(w api.Word, bound int) (int, bool) {
	if compare(w, small(bound)) > 0 {
		return 0, false
	}
	return int(w[0]), true
}

// span gives a place and n as ints, if n bytes from the place on are among the
// first ones up to the bound. Each alone is held against the bound first: the
// sum of two great words wraps round.
func span(place, n api.Word, bound int) (int, int, bool) {
	from, fits := upTo(place, bound)
	count, few := upTo(n, bound)
	if !fits || !few || from+count > bound {
		return 0, 0, false
	}
	return from, count, true
}

// piece gives n bytes from a place on; behind the source stand noughts.
func piece(source string, place api.Word, n int) []byte {
	bytes := make([]byte, n)
	if from, inside := upTo(place, len(source)); inside {
		copy(bytes, source[from:])
	}
	return bytes
}

// fromBytes reads at most 32 bytes, the highest first.
func fromBytes(bytes []byte) api.Word {
	var w api.Word
	for i, b := range bytes {
		up := len(bytes) - 1 - i
		w[up/8] |= uint64(b) << (up % 8 * 8)
	}
	return w
}

func toBytes(w api.Word) [wordBytes]byte {
	var bytes [wordBytes]byte
	for i := range bytes {
		up := len(bytes) - 1 - i
		bytes[i] = byte(w[up/8] >> (up % 8 * 8))
	}
	return bytes
}

// byteLength is how many bytes the word has at the least.
func byteLength(w api.Word) int {
	for i, b := range toBytes(w) {
		if b != 0 {
			return wordBytes - i
		}
	}
	return 0
}
