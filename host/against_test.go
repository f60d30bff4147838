package host_test

import (
	"maps"
	"math/big"
	"slices"

	"cinder/api"
	"cinder/word"
)

// This is the machine once more, in another way: places are great numbers, an
// instruction takes all the words that it looks at and lays all that it leaves,
// and all that a message or a call may change is copied ahead of it.

type plainAccount struct {
	balance api.Word
	code    string
	slots   map[api.Word]api.Word
}

type plainWorld map[api.Word]plainAccount

func plainOf(world []api.Account) plainWorld {
	w := plainWorld{}
	for _, a := range world {
		slots := map[api.Word]api.Word{}
		for _, s := range a.Slots {
			slots[s.Key] = s.Value
		}
		w[a.At] = plainAccount{a.Balance, a.Code, slots}
	}
	return w
}

func (w plainWorld) copied() plainWorld {
	c := plainWorld{}
	for at, a := range w {
		a.slots = maps.Clone(a.slots)
		c[at] = a
	}
	return c
}

func (w plainWorld) pay(at, amount api.Word, op uint8) {
	a := w[at]
	a.balance, _ = word.Calc(op, a.balance, amount, none)
	w[at] = a
}

func (w plainWorld) store(at, key, value api.Word) {
	a := w[at]
	if a.slots == nil {
		a.slots = map[api.Word]api.Word{}
	}
	a.slots[key] = value
	w[at] = a
}

func (w plainWorld) list() []api.Account {
	var list []api.Account
	for at, a := range w {
		var slots []api.Slot
		for k, v := range a.slots {
			if v != none {
				slots = append(slots, api.Slot{Key: k, Value: v})
			}
		}
		slices.SortFunc(slots, func(a, b api.Slot) int { return great(a.Key).Cmp(great(b.Key)) })
		if a.balance != none || a.code != "" || slots != nil {
			list = append(list, api.Account{At: at, Balance: a.balance, Code: a.code, Slots: slots})
		}
	}
	slices.SortFunc(list, func(a, b api.Account) int { return great(a.At).Cmp(great(b.At)) })
	return list
}

func great(w api.Word) *big.Int {
	x := new(big.Int)
	for i := 3; i >= 0; i-- {
		x.Lsh(x, 64).Or(x, new(big.Int).SetUint64(w[i]))
	}
	return x
}

// read gives the word in so many bytes from a place on, with noughts behind s.
func read(s string, from api.Word, count int) api.Word {
	x := new(big.Int)
	for i := range count {
		x.Lsh(x, 8).Or(x, big.NewInt(int64(byteOf(s, from, i))))
	}
	var w api.Word
	for i := range w {
		w[i] = new(big.Int).And(new(big.Int).Rsh(x, uint(64*i)), new(big.Int).SetUint64(ones)).Uint64()
	}
	return w
}

func byteOf(s string, from api.Word, i int) byte {
	at := new(big.Int).Add(great(from), big.NewInt(int64(i)))
	if at.Cmp(big.NewInt(int64(len(s)))) >= 0 {
		return 0
	}
	return s[at.Int64()]
}

// plainState is all that a message changes. It is copied ahead of each call.
type plainState struct {
	world   plainWorld
	passing map[[2]api.Word]api.Word
	logs    []api.Log
}

func (s *plainState) copied() plainState {
	return plainState{s.world.copied(), maps.Clone(s.passing), slices.Clone(s.logs)}
}

// send gives the world behind a message too.
func (w plainWorld) send(m api.Message) (plainWorld, api.Result, api.Errno) {
	if m.Gas < 0 || m.Gas > 100000 || len(m.Data) > 500 {
		return w, api.Result{}, api.ErrArg
	}
	if great(w[m.From].balance).Cmp(great(m.Value)) < 0 {
		return w, api.Result{}, api.ErrFunds
	}
	state := &plainState{world: w.copied(), passing: map[[2]api.Word]api.Word{}}
	p := &plainFrame{state: state, m: m, code: w[m.To].code, gas: m.Gas, depth: 1}
	p.live(m.From, m.To, m.Value)
	return state.world, api.Result{Status: p.end, Gas: p.gas, Output: p.output, Logs: state.logs}, api.OK
}

// plainFrame has in its message what it was given.
type plainFrame struct {
	state    *plainState
	m        api.Message
	code     string
	at       int
	gas      int
	depth    int
	reads    bool
	stack    []api.Word
	memory   []byte
	returned string
	end      uint8
	output   string
}

// live is the frame from its money to its end.
func (p *plainFrame) live(from, to, amount api.Word) {
	ahead := p.state.copied()
	p.state.world.pay(from, amount, 3)
	p.state.world.pay(to, amount, 1)
	for p.step() {
	}
	if p.end != api.Done {
		*p.state = ahead
	}
	if p.end == api.Failed {
		p.gas, p.output = 0, ""
	}
}

// step says whether the frame goes on.
func (p *plainFrame) step() bool {
	op := 0
	if p.at < len(p.code) {
		op = int(p.code[p.at])
	}
	p.end = api.Failed
	if !inTable(op) || len(p.stack) < taken(op) {
		return false
	}
	rest := len(p.stack) - taken(op)
	w := slices.Clone(p.stack[rest:])
	slices.Reverse(w)
	p.stack = p.stack[:rest]
	if !p.spend(big.NewInt(int64(plainCost(op)))) || !p.speak(op, w) || p.reads && writes(op, w) {
		return false
	}
	if op == 0 || op == 243 || op == 253 {
		p.finish(op, w)
		return false
	}
	next := p.at + 1
	if op >= 95 && op <= 127 {
		next += op - 95
	}
	if op == 86 || op == 87 && w[1] != none {
		if !p.mayJump(w[0]) {
			return false
		}
		next = int(w[0][0])
	}
	if op == 62 && w[2] != none && new(big.Int).Add(great(w[1]), great(w[2])).Cmp(big.NewInt(int64(len(p.returned)))) > 0 {
		return false
	}
	p.stack = append(p.stack, p.work(op, w)...)
	p.at = next
	return len(p.stack) <= 1024
}

// writes: what a frame that may only read may not do.
func writes(op int, w []api.Word) bool {
	return op == 85 || op == 93 || op >= 160 && op <= 164 || op == 241 && w[2] != none
}

// call gives the word that is laid. Its words are, behind a value of 0 where
// there is none, the same for all three.
func (p *plainFrame) call(op int, w []api.Word) api.Word {
	if op != 241 {
		w = slices.Insert(slices.Clone(w), 2, none)
	}
	p.returned = ""
	if p.depth == 16 || great(p.state.world[p.m.To].balance).Cmp(great(w[2])) < 0 {
		return none
	}
	q := &plainFrame{state: p.state, code: p.state.world[w[1]].code, depth: p.depth + 1, reads: p.reads}
	switch op {
	case 241:
		q.m = api.Message{From: p.m.To, To: w[1], Value: w[2]}
	case 244:
		q.m = p.m
	case 250:
		q.m = api.Message{From: p.m.To, To: w[1]}
		q.reads = true
	}
	q.m.Data = string(p.part(w[3], w[4]))
	q.gas = p.gas - p.gas/64
	if great(w[0]).Cmp(big.NewInt(int64(q.gas))) < 0 {
		q.gas = int(w[0][0])
	}
	p.gas -= q.gas
	q.live(p.m.To, w[1], w[2])
	p.gas += q.gas
	p.returned = q.output
	for i := range int(w[6][0]) {
		if i < len(q.output) {
			p.memory[int(w[5][0])+i] = q.output[i]
		}
	}
	if q.end == api.Done {
		return n(1)
	}
	return none
}

func (p *plainFrame) spend(gas *big.Int) bool {
	if gas.Cmp(big.NewInt(int64(p.gas))) > 0 {
		return false
	}
	p.gas -= int(gas.Int64())
	return true
}

func (p *plainFrame) finish(op int, w []api.Word) {
	p.end = api.Done
	if op != 0 {
		p.output = string(p.part(w[0], w[1]))
	}
	if op == 253 {
		p.end = api.Reverted
	}
}

func (p *plainFrame) mayJump(place api.Word) bool {
	for i := 0; i < len(p.code); i++ {
		if p.code[i] == 91 && place == n(i) {
			return true
		}
		if p.code[i] >= 96 && p.code[i] <= 127 {
			i += int(p.code[i]) - 95
		}
	}
	return false
}

func plainCost(op int) int {
	for cost, list := range map[int][]int{
		0: {0, 243, 253}, 1: {91}, 2: {48, 51, 52, 54, 56, 61, 80, 88, 89, 90}, 8: {86}, 10: {10, 87},
		100: {49, 84, 92, 93, 241, 244, 250}, 200: {85}, 300: {160, 161, 162, 163, 164},
	} {
		if slices.Contains(list, op) {
			return cost
		}
	}
	if isReckoning(op) {
		return 5
	}
	return 3
}

// speak makes the memory long enough, and pays for that and for what hangs on
// the words.
func (p *plainFrame) speak(op int, w []api.Word) bool {
	more := new(big.Int)
	parts := [][2]api.Word{}
	switch {
	case op == 10:
		more.SetInt64(int64(10 * len(great(w[1]).Bytes())))
	case op == 81 || op == 82:
		parts = append(parts, [2]api.Word{w[0], n(32)})
	case op == 83:
		parts = append(parts, [2]api.Word{w[0], n(1)})
	case op == 243 || op == 253:
		parts = append(parts, [2]api.Word{w[0], w[1]})
	case op >= 160 && op <= 164:
		parts = append(parts, [2]api.Word{w[0], w[1]})
		more.Mul(great(w[1]), big.NewInt(8))
	case op == 94:
		parts = append(parts, [2]api.Word{w[1], w[2]})
		fallthrough
	case op == 55 || op == 57 || op == 62:
		parts = append(parts, [2]api.Word{w[0], w[2]})
		more.Add(great(w[2]), big.NewInt(31))
		more.Div(more, big.NewInt(32)).Mul(more, big.NewInt(3))
	case isCall(op):
		last := w[len(w)-4:]
		parts = append(parts, [2]api.Word{last[0], last[1]}, [2]api.Word{last[2], last[3]})
		if op == 241 && w[2] != none {
			more.SetInt64(900)
		}
	}
	for _, part := range parts {
		end := new(big.Int).Add(great(part[0]), great(part[1]))
		if part[1] == none {
			continue
		}
		if end.Cmp(big.NewInt(65536)) > 0 {
			return false
		}
		for int64(len(p.memory)) < end.Int64() {
			p.memory = append(p.memory, make([]byte, 32)...)
			more.Add(more, big.NewInt(3))
		}
	}
	return p.spend(more)
}

func (p *plainFrame) part(place, count api.Word) []byte {
	if count == none {
		return nil
	}
	return p.memory[place[0] : place[0]+count[0]]
}

// work gives the words that are laid, the lowest first.
func (p *plainFrame) work(op int, w []api.Word) []api.Word {
	self := p.state.world[p.m.To]
	switch {
	case isReckoning(op):
		all := append(slices.Clone(w), none, none)
		x, _ := word.Calc(uint8(op), all[0], all[1], all[2])
		return []api.Word{x}
	case op >= 95 && op <= 127:
		return []api.Word{read(p.code, n(p.at+1), op-95)}
	case op >= 128 && op <= 143:
		last := w[len(w)-1]
		slices.Reverse(w)
		return append(w, last)
	case op >= 144 && op <= 159:
		w[0], w[len(w)-1] = w[len(w)-1], w[0]
		slices.Reverse(w)
		return w
	case op >= 160 && op <= 164:
		p.state.logs = append(p.state.logs, api.Log{At: p.m.To, Topics: w[2:], Data: string(p.part(w[0], w[1]))})
	}
	switch op {
	case 85:
		p.state.world.store(p.m.To, w[0], w[1])
	case 93:
		p.state.passing[[2]api.Word{p.m.To, w[0]}] = w[1]
	case 241, 244, 250:
		return []api.Word{p.call(op, w)}
	case 55, 57, 62, 82, 83, 94:
		p.write(op, w)
	}
	asked := map[int]func() api.Word{
		48: func() api.Word { return p.m.To },
		49: func() api.Word { return p.state.world[w[0]].balance },
		51: func() api.Word { return p.m.From },
		52: func() api.Word { return p.m.Value },
		53: func() api.Word { return read(p.m.Data, w[0], 32) },
		54: func() api.Word { return n(len(p.m.Data)) },
		56: func() api.Word { return n(len(p.code)) },
		61: func() api.Word { return n(len(p.returned)) },
		81: func() api.Word { return read(string(p.memory), w[0], 32) },
		84: func() api.Word { return self.slots[w[0]] },
		88: func() api.Word { return n(p.at) },
		89: func() api.Word { return n(len(p.memory)) },
		90: func() api.Word { return n(p.gas) },
		92: func() api.Word { return p.state.passing[[2]api.Word{p.m.To, w[0]}] },
	}
	if f, ok := asked[op]; ok {
		return []api.Word{f()}
	}
	return nil
}

// write changes the memory byte by byte, out of what it was.
func (p *plainFrame) write(op int, w []api.Word) {
	was := string(p.memory)
	var source string
	switch op {
	case 55:
		source = p.m.Data
	case 57:
		source = p.code
	case 62:
		source = p.returned
	case 94:
		source = was
	case 82:
		for i := range 32 {
			p.memory[int(w[0][0])+i] = byte(w[1][3-i/8] >> (56 - i%8*8))
		}
		return
	case 83:
		p.memory[w[0][0]] = byte(w[1][0])
		return
	}
	for i := range w[2][0] {
		p.memory[w[0][0]+i] = byteOf(source, w[1], int(i))
	}
}
