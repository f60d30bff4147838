package text

import (
	"strings"

	"cinder/api"
	"cinder/opcode"
)

// kind of an item: what it has to do with labels.
type kind int

const (
	plain kind = iota
	label
	asking
)

// item as it was read, ahead of knowing the labels.
type item struct {
	kind  kind
	name  string    // of the label that it is or asks for
	code  []byte    // one that asks has noughts where the place will stand
	fault api.Errno // that it has whatever labels there are
	at    int       // the place of its first rune in the text
	place int       // the place of its first byte in the code
}

// faultAmong says what is wrong with the item, among these labels.
func (it item) faultAmong(labels map[string]int) api.Errno {
	place, there := labels[it.name]
	switch {
	case it.fault != api.OK:
		return it.fault
	case it.kind == label && place != it.place:
		return api.ErrName
	case it.kind == asking && !there:
		return api.ErrName
	}
	return api.OK
}

// codeWith gives the item's bytes, with the label's place where it asks for one.
func (it item) codeWith(labels map[string]int) []byte {
	if it.kind != asking {
		return it.code
	}
	place := labels[it.name]
	return []byte{it.code[0], byte(place >> 8), byte(place)}
}

// readItems reads all that stands in the text, wrong items too: labels behind
// a wrong item count for those ahead of it.
func readItems(src string) []item {
	var items []item
	place := 0
	for _, p := range split(src) {
		it := readItem(p.text)
		it.at = p.at
		it.place = place
		items = append(items, it)
		place += len(it.code)
	}
	return items
}

func readItem(s string) item {
	if name, ok := strings.CutSuffix(s, ":"); ok && isName(name) {
		return item{kind: label, name: name, code: []byte{opcode.Jumpdest}}
	}
	if name, ok := strings.CutPrefix(s, "@"); ok && isName(name) {
		return item{kind: asking, name: name, code: []byte{opcode.Push0 + 2, 0, 0}}
	}
	if op, ok := opcode.Named(s); ok {
		return item{code: []byte{op}}
	}
	number, fault := readNumber(s)
	if fault != api.OK {
		return item{fault: fault}
	}
	return item{code: push(number)}
}

// isName counts runes, not bytes: a name of ten may have forty bytes.
func isName(s string) bool {
	count := 0
	for _, r := range s {
		if r <= 127 && (r < 'a' || r > 'z') {
			return false
		}
		count++
	}
	return count > 0 && count <= api.MaxName
}

// piece of a text, between what parts items.
type piece struct {
	text string
	at   int // in runes
}

func split(src string) []piece {
	var pieces []piece
	begin, at, place := -1, 0, 0 // begin is -1 outside of a piece
	remark := false
	for i, r := range src {
		inside := !remark && !parts(r)
		if inside && begin < 0 {
			begin, at = i, place
		}
		if !inside && begin >= 0 {
			pieces = append(pieces, piece{src[begin:i], at})
			begin = -1
		}
		remark = r == ';' || remark && r != '\n'
		place++
	}
	if begin >= 0 {
		pieces = append(pieces, piece{src[begin:], at})
	}
	return pieces
}

// parts says whether no item has this rune.
func parts(r rune) bool {
	return r == ' ' || r == '\t' || r == '\n' || r == ';'
}
