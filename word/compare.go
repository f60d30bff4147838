package word

import "cinder/api"

func truth(holds bool) api.Word {
	if holds {
		return api.Word{1}
	}
	return api.Word{}
}

func less(a, b api.Word) bool {
	_, borrow := borrowSub(a, b)
	return borrow == 1
}

func signedLess(a, b api.Word) bool {
	if negative(a) != negative(b) {
		return negative(a)
	}
	return less(a, b)
}

// below looks at all of a: a great word may have small lowest bits.
func below(a api.Word, bound uint64) bool {
	return less(a, api.Word{bound})
}
