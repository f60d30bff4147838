package host

import "cinder/api"

// stack of words, the top last. What it can't do it throws.
type stack []api.Word

func (s *stack) push(w api.Word) {
	if len(*s) == api.MaxStack {
		panic(fullStack)
	}
	*s = append(*s, w)
}

func (s *stack) pop() api.Word {
	top := s.place(0)
	w := (*s)[top]
	*s = (*s)[:top]
	return w
}

// dup lays the n-th word from the top, of which the top is the first.
func (s *stack) dup(n int) {
	s.push((*s)[s.place(n-1)])
}

// swap changes the top with the n-th word below it.
func (s *stack) swap(n int) {
	top, other := s.place(0), s.place(n)
	(*s)[top], (*s)[other] = (*s)[other], (*s)[top]
}

// place gives where the word lies that has so many above it.
func (s *stack) place(above int) int {
	if above >= len(*s) {
		panic(noWord)
	}
	return len(*s) - 1 - above
}
