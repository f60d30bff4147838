package host

import (
	"cinder/api"
	"cinder/opcode"
)

// kind of what a message may change.
type kind int

const (
	money kind = iota
	lasting
	passing // slots of the message
)

// cell names a word that a message may change. Money has the key 0.
type cell struct {
	kind    kind
	at, key api.Word
}

type change struct {
	cell cell
	old  api.Word
}

// trail of one message: what it has changed, so that it can be taken back, and
// what is gone when it ends.
type trail struct {
	accounts accounts
	passing  map[cell]api.Word
	changes  []change
	logs     []api.Log
}

func newTrail(all accounts) *trail {
	return &trail{accounts: all, passing: map[cell]api.Word{}}
}

// mark of how far a trail had come.
type mark struct {
	changes, logs int
}

func (t *trail) mark() mark {
	return mark{changes: len(t.changes), logs: len(t.logs)}
}

// takeBack goes from the last change to the first: a cell that has changed
// twice must end with its oldest word.
func (t *trail) takeBack(m mark) {
	for i := len(t.changes) - 1; i >= m.changes; i-- {
		t.put(t.changes[i].cell, t.changes[i].old)
	}
	t.changes = t.changes[:m.changes]
	t.logs = t.logs[:m.logs]
}

func (t *trail) get(c cell) api.Word {
	switch c.kind {
	case money:
		return t.accounts[c.at].balance
	case lasting:
		return t.accounts[c.at].slots[c.key]
	}
	return t.passing[c]
}

func (t *trail) set(c cell, w api.Word) {
	t.changes = append(t.changes, change{cell: c, old: t.get(c)})
	t.put(c, w)
}

// put leaves no trace: only set and takeBack may call it.
func (t *trail) put(c cell, w api.Word) {
	switch c.kind {
	case money:
		t.accounts.setBalance(c.at, w)
	case lasting:
		t.accounts.setSlot(c.at, c.key, w)
	case passing:
		t.passing[c] = w
	}
}

func (t *trail) balance(at api.Word) api.Word {
	return t.get(cell{kind: money, at: at})
}

// move looks at the receiver's money behind the giver's change: they may be one.
func (t *trail) move(amount, from, to api.Word) {
	t.set(cell{kind: money, at: from}, reckon(opcode.Sub, t.balance(from), amount))
	t.set(cell{kind: money, at: to}, reckon(opcode.Add, t.balance(to), amount))
}

// wake runs a frame, once the money that it brings has moved; that must be
// there. If it does not end Done, all is as it was ahead of both.
func (t *trail) wake(f *frame, amount, from, to api.Word) api.Result {
	start := t.mark()
	t.move(amount, from, to)
	result := f.run()
	if result.Status != api.Done {
		t.takeBack(start)
	}
	return result
}

// deliver does what a message asks for.
func (t *trail) deliver(m api.Message) api.Result {
	f := newFrame(t, t.accounts[m.To].code)
	f.depth = 1
	f.self, f.caller, f.value = m.To, m.From, m.Value
	f.data, f.gas = m.Data, m.Gas
	result := t.wake(f, m.Value, m.From, m.To)
	// A list of its own: behind the trail's may still stand what was taken back.
	result.Logs = append(result.Logs, t.logs...)
	return result
}
