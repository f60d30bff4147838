package host

import (
	"cinder/api"
	"cinder/opcode"
	"cinder/word"
)

func (f *frame) operate(op uint8) {
	var operands [3]api.Word
	for i := range operandCount(op) {
		operands[i] = f.stack.pop()
	}
	if op == opcode.Exp {
		f.pay(exponentCost * byteLength(operands[1]))
	}
	result, _ := word.Calc(op, operands[0], operands[1], operands[2])
	f.stack.push(result)
}

func operandCount(op uint8) int {
	switch op {
	case opcode.Iszero, opcode.Not:
		return 1
	case opcode.Addmod, opcode.Mulmod:
		return 3
	}
	return 2
}

// doSurroundings knows what the frame was given.
func (f *frame) doSurroundings(op uint8) {
	switch op {
	case opcode.Address:
		f.stack.push(f.self)
	case opcode.Balance:
		f.stack.push(f.trail.balance(f.stack.pop()))
	case opcode.Caller:
		f.stack.push(f.caller)
	case opcode.Callvalue:
		f.stack.push(f.value)
	case opcode.Calldataload:
		f.stack.push(fromBytes(piece(f.data, f.stack.pop(), wordBytes)))
	case opcode.Calldatasize:
		f.stack.push(small(len(f.data)))
	case opcode.Calldatacopy:
		f.copyPadded(f.data)
	case opcode.Codesize:
		f.stack.push(small(len(f.code)))
	case opcode.Codecopy:
		f.copyPadded(f.code)
	case opcode.Returndatasize:
		f.stack.push(small(len(f.returned)))
	case opcode.Returndatacopy:
		f.copyReturned()
	}
}

// doKeeping knows memory, slots and places. JUMPDEST is among these numbers
// and does nothing.
func (f *frame) doKeeping(op uint8) {
	switch op {
	case opcode.Pop:
		f.stack.pop()
	case opcode.Mload:
		f.loadWord()
	case opcode.Mstore:
		f.storeWord()
	case opcode.Mstore8:
		f.storeByte()
	case opcode.Sload:
		f.load(lasting)
	case opcode.Sstore:
		f.store(lasting)
	case opcode.Jump:
		f.jump(f.stack.pop())
	case opcode.Jumpi:
		f.jumpIf()
	case opcode.Pc:
		f.stack.push(small(f.at))
	case opcode.Msize:
		f.stack.push(small(len(f.memory)))
	case opcode.Gas:
		f.stack.push(small(f.gas))
	case opcode.Tload:
		f.load(passing)
	case opcode.Tstore:
		f.store(passing)
	case opcode.Mcopy:
		f.copyWithin()
	}
}

func (f *frame) load(slots kind) {
	f.stack.push(f.trail.get(cell{kind: slots, at: f.self, key: f.stack.pop()}))
}

func (f *frame) store(slots kind) {
	f.mayChange()
	key, value := f.stack.pop(), f.stack.pop()
	f.trail.set(cell{kind: slots, at: f.self, key: key}, value)
}

func (f *frame) jump(place api.Word) {
	to, inside := upTo(place, len(f.code))
	if !inside || !f.jumpdests[to] {
		panic(noJumpdest)
	}
	f.next = to
}

// jumpIf looks at the place only where it goes there.
func (f *frame) jumpIf() {
	place, w := f.stack.pop(), f.stack.pop()
	if w != zero {
		f.jump(place)
	}
}

func (f *frame) pushBytes(n int) {
	f.stack.push(fromBytes(piece(f.code, small(f.next), n)))
	f.next += n
}

func (f *frame) log(topicCount int) {
	f.mayChange()
	place, n := f.stack.pop(), f.stack.pop()
	var topics []api.Word
	for range topicCount {
		topics = append(topics, f.stack.pop())
	}
	data := f.part(place, n)
	f.pay(logCost * len(data))
	f.trail.logs = append(f.trail.logs, api.Log{At: f.self, Topics: topics, Data: string(data)})
}
