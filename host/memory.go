package host

import "cinder/api"

// reach makes the memory hold n bytes from a place on, and gives both as ints.
func (f *frame) reach(place, n api.Word) (int, int) {
	if n == zero {
		return 0, 0
	}
	from, count, fits := span(place, n, api.MaxMemory)
	if !fits {
		panic(fullMemory)
	}
	f.grow(steps(from + count))
	return from, count
}

func (f *frame) grow(needed int) {
	more := needed - steps(len(f.memory))
	if more <= 0 {
		return
	}
	f.pay(stepCost * more)
	f.memory = append(f.memory, make([]byte, wordBytes*more)...)
}

// steps is how many times 32 bytes are begun by n of them.
func steps(n int) int {
	return (n + wordBytes - 1) / wordBytes
}

// part gives n bytes of the memory itself, to be written to only until it
// grows again: that may move it elsewhere.
func (f *frame) part(place, n api.Word) []byte {
	from, count := f.reach(place, n)
	return f.memory[from : from+count]
}

func (f *frame) loadWord() {
	f.stack.push(fromBytes(f.part(f.stack.pop(), small(wordBytes))))
}

func (f *frame) storeWord() {
	place, w := f.stack.pop(), f.stack.pop()
	bytes := toBytes(w)
	copy(f.part(place, small(wordBytes)), bytes[:])
}

func (f *frame) storeByte() {
	place, w := f.stack.pop(), f.stack.pop()
	f.part(place, small(1))[0] = byte(w[0])
}

// copyWithin may take the source ahead of the memory's growing for the target:
// what is left behind then still holds the same bytes.
func (f *frame) copyWithin() {
	to, from, n := f.stack.pop(), f.stack.pop(), f.stack.pop()
	source := f.part(from, n)
	target := f.part(to, n)
	f.pay(copyCost * steps(len(source)))
	copy(target, source)
}

func (f *frame) copyPadded(source string) {
	to, from, n := f.stack.pop(), f.stack.pop(), f.stack.pop()
	f.copyPiece(source, to, from, n)
}

func (f *frame) copyReturned() {
	to, from, n := f.stack.pop(), f.stack.pop(), f.stack.pop()
	if _, _, inside := span(from, n, len(f.returned)); n != zero && !inside {
		panic(notReturned)
	}
	f.copyPiece(f.returned, to, from, n)
}

func (f *frame) copyPiece(source string, to, from, n api.Word) {
	target := f.part(to, n)
	f.pay(copyCost * steps(len(target)))
	copy(target, piece(source, from, len(target)))
}
