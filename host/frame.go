package host

import (
	"cinder/api"
	"cinder/opcode"
)

// failure is what is thrown to make a frame fail.
type failure string

const (
	noInstruction failure = "an instruction that is not in the table"
	noWord        failure = "more words taken than the stack has"
	fullStack     failure = "more words laid than the stack may have"
	noGas         failure = "more gas asked for than there is"
	fullMemory    failure = "more memory asked for than there may be"
	noJumpdest    failure = "a jump to what is no JUMPDEST"
	notReturned   failure = "bytes asked for that were not returned"
	readOnly      failure = "a change where only reading is allowed"
)

// frame runs code.
type frame struct {
	trail               *trail
	code                string
	jumpdests           []bool
	self, caller, value api.Word
	data                string
	gas                 int
	onlyReads           bool
	depth               int
	stack               stack
	memory              []byte
	returned            string
	at, next            int // the places of this instruction and of the next one
	ended               bool
	status              uint8
	output              string
}

func newFrame(t *trail, code string) *frame {
	return &frame{trail: t, code: code, jumpdests: findJumpdests(code)}
}

// findJumpdests tells of each place, and of that behind the last one, whether a
// jump may go there.
func findJumpdests(code string) []bool {
	found := make([]bool, len(code)+1)
	for i := 0; i < len(code); i++ {
		op := code[i]
		if op == opcode.Jumpdest {
			found[i] = true
		}
		if op > opcode.Push0 && op <= opcode.Push32 {
			i += int(op - opcode.Push0)
		}
	}
	return found
}

// run goes on until the frame ends. Whatever is thrown makes it fail: no call
// of a host panics.
func (f *frame) run() (result api.Result) {
	defer func() {
		if recover() != nil {
			result = api.Result{Status: api.Failed}
		}
	}()
	for !f.ended {
		f.step()
	}
	return api.Result{Status: f.status, Gas: f.gas, Output: f.output}
}

func (f *frame) step() {
	f.at = f.next
	f.next++
	op := opcode.Stop
	if f.at < len(f.code) {
		op = f.code[f.at]
	}
	cost, known := baseCost(op)
	if !known {
		panic(noInstruction)
	}
	f.pay(cost)
	f.do(op)
}

func (f *frame) pay(cost int) {
	if cost > f.gas {
		panic(noGas)
	}
	f.gas -= cost
}

// do works an instruction out whose base cost has been paid.
func (f *frame) do(op uint8) {
	switch {
	case isOperation(op):
		f.operate(op)
	case opcode.Address <= op && op <= opcode.Returndatacopy:
		f.doSurroundings(op)
	case opcode.Pop <= op && op <= opcode.Mcopy:
		f.doKeeping(op)
	case isPush(op):
		f.pushBytes(int(op - opcode.Push0))
	case isDup(op):
		f.stack.dup(int(op-opcode.Dup1) + 1)
	case isSwap(op):
		f.stack.swap(int(op-opcode.Swap1) + 1)
	case isLog(op):
		f.log(int(op - opcode.Log0))
	case isCall(op):
		f.call(op)
	default:
		f.doEnd(op)
	}
}

func (f *frame) doEnd(op uint8) {
	f.ended = true
	if op == opcode.Stop {
		return
	}
	place, n := f.stack.pop(), f.stack.pop()
	f.output = string(f.part(place, n))
	if op == opcode.Revert {
		f.status = api.Reverted
	}
}

// mayChange throws, if the frame may only read.
func (f *frame) mayChange() {
	if f.onlyReads {
		panic(readOnly)
	}
}
