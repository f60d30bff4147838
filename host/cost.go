package host

import "cinder/opcode"

// What an instruction costs beyond its base cost.
const (
	stepCost     = 3   // for each new step of memory
	copyCost     = 3   // for each word's bytes that are begun
	exponentCost = 10  // for each byte of the exponent
	logCost      = 8   // for each byte
	valueCost    = 900 // for a call that brings money
)

// baseCost gives the gas that the instruction costs at the least, and whether
// there is such an instruction.
func baseCost(op uint8) (int, bool) {
	switch op {
	case opcode.Stop, opcode.Return, opcode.Revert:
		return 0, true
	case opcode.Jumpdest:
		return 1, true
	case opcode.Address, opcode.Caller, opcode.Callvalue, opcode.Calldatasize, opcode.Codesize, opcode.Returndatasize,
		opcode.Pop, opcode.Pc, opcode.Msize, opcode.Gas:
		return 2, true
	case opcode.Calldataload, opcode.Calldatacopy, opcode.Codecopy, opcode.Returndatacopy,
		opcode.Mload, opcode.Mstore, opcode.Mstore8, opcode.Mcopy:
		return 3, true
	case opcode.Jump:
		return 8, true
	case opcode.Jumpi, opcode.Exp:
		return 10, true
	case opcode.Balance, opcode.Sload, opcode.Tload, opcode.Tstore,
		opcode.Call, opcode.Delegatecall, opcode.Staticcall:
		return 100, true
	case opcode.Sstore:
		return 200, true
	}
	return baseCostInRow(op)
}

func baseCostInRow(op uint8) (int, bool) {
	switch {
	case isOperation(op):
		return 5, true
	case isPush(op), isDup(op), isSwap(op):
		return 3, true
	case isLog(op):
		return 300, true
	}
	return 0, false
}

func isOperation(op uint8) bool {
	return opcode.Add <= op && op <= opcode.Signextend || opcode.Lt <= op && op <= opcode.Sar
}

func isPush(op uint8) bool {
	return opcode.Push0 <= op && op <= opcode.Push32
}

func isDup(op uint8) bool {
	return opcode.Dup1 <= op && op <= opcode.Dup16
}

func isSwap(op uint8) bool {
	return opcode.Swap1 <= op && op <= opcode.Swap16
}

func isLog(op uint8) bool {
	return opcode.Log0 <= op && op <= opcode.Log4
}

func isCall(op uint8) bool {
	return op == opcode.Call || op == opcode.Delegatecall || op == opcode.Staticcall
}
