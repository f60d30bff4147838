package host

import (
	"cinder/api"
	"cinder/opcode"
)

// keptShare: this part of the gas that is left stays with the frame that calls.
const keptShare = 64

// call asks another frame for its work. Both parts of memory are made ahead of
// it: what they cost is not there for the new frame.
func (f *frame) call(op uint8) {
	asked, to, value := f.stack.pop(), f.stack.pop(), f.popValue(op)
	dataPlace, dataLength := f.stack.pop(), f.stack.pop()
	roomPlace, roomLength := f.stack.pop(), f.stack.pop()
	if value != zero {
		f.mayChange()
		f.pay(valueCost)
	}
	data := string(f.part(dataPlace, dataLength))
	room := f.part(roomPlace, roomLength)
	f.returned = ""
	if !f.mayCall(value) {
		f.stack.push(zero)
		return
	}
	called := f.called(op, to, value)
	called.data, called.gas = data, f.granted(asked)
	f.gas -= called.gas
	f.takeResult(f.trail.wake(called, value, f.self, to), room)
}

// popValue: only CALL names a value, the others send no money.
func (f *frame) popValue(op uint8) api.Word {
	if op == opcode.Call {
		return f.stack.pop()
	}
	return zero
}

func (f *frame) mayCall(value api.Word) bool {
	return f.depth < api.MaxDepth && compare(f.trail.balance(f.self), value) >= 0
}

// granted is how much of the gas that is left a new frame is given.
func (f *frame) granted(asked api.Word) int {
	most := f.gas - f.gas/keptShare
	if gas, fits := upTo(asked, most); fits {
		return gas
	}
	return most
}

// called is the frame for another one's code. What may only read hands that on.
func (f *frame) called(op uint8, to, value api.Word) *frame {
	g := newFrame(f.trail, f.trail.accounts[to].code)
	g.depth = f.depth + 1
	g.onlyReads = f.onlyReads || op == opcode.Staticcall
	if op == opcode.Delegatecall {
		g.self, g.caller, g.value = f.self, f.caller, f.value
	} else {
		g.self, g.caller, g.value = to, f.self, value
	}
	return g
}

// takeResult: the room is memory of this frame, which has not grown since.
func (f *frame) takeResult(result api.Result, room []byte) {
	f.gas += result.Gas
	f.returned = result.Output
	copy(room, result.Output)
	if result.Status == api.Done {
		f.stack.push(small(1))
	} else {
		f.stack.push(zero)
	}
}
