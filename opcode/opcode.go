// Package opcode: the numbers and names of the instructions: see DOC.md.
package opcode

import "strconv"

const (
	Stop uint8 = iota
	Add
	Mul
	Sub
	Div
	Sdiv
	Mod
	Smod
	Addmod
	Mulmod
	Exp
	Signextend
)

const (
	Lt uint8 = iota + 16
	Gt
	Slt
	Sgt
	Eq
	Iszero
	And
	Or
	Xor
	Not
	Byte
	Shl
	Shr
	Sar
)

const (
	Address        uint8 = 48
	Balance        uint8 = 49
	Caller         uint8 = 51
	Callvalue      uint8 = 52
	Calldataload   uint8 = 53
	Calldatasize   uint8 = 54
	Calldatacopy   uint8 = 55
	Codesize       uint8 = 56
	Codecopy       uint8 = 57
	Returndatasize uint8 = 61
	Returndatacopy uint8 = 62
)

const (
	Pop uint8 = iota + 80
	Mload
	Mstore
	Mstore8
	Sload
	Sstore
	Jump
	Jumpi
	Pc
	Msize
	Gas
	Jumpdest
	Tload
	Tstore
	Mcopy
	Push0
)

// The first and the last of each row of numbered instructions (Push0 stands
// above).
const (
	Push32 uint8 = Push0 + 32
	Dup1   uint8 = 128
	Dup16  uint8 = 143
	Swap1  uint8 = 144
	Swap16 uint8 = 159
	Log0   uint8 = 160
	Log4   uint8 = 164
)

const (
	Call         uint8 = 241
	Return       uint8 = 243
	Delegatecall uint8 = 244
	Staticcall   uint8 = 250
	Revert       uint8 = 253
)

// Named gives the number of the instruction with this name, and whether there
// is one. PUSH is not among them: texts have numbers for it.
func Named(name string) (uint8, bool) {
	if op, ok := namedReckoning(name); ok {
		return op, true
	}
	if op, ok := namedSurroundings(name); ok {
		return op, true
	}
	if op, ok := namedKeeping(name); ok {
		return op, true
	}
	return namedInRow(name)
}

// namedReckoning knows the operations.
func namedReckoning(name string) (uint8, bool) {
	switch name {
	case "ADD":
		return Add, true
	case "MUL":
		return Mul, true
	case "SUB":
		return Sub, true
	case "DIV":
		return Div, true
	case "SDIV":
		return Sdiv, true
	case "MOD":
		return Mod, true
	case "SMOD":
		return Smod, true
	case "ADDMOD":
		return Addmod, true
	case "MULMOD":
		return Mulmod, true
	case "EXP":
		return Exp, true
	case "SIGNEXTEND":
		return Signextend, true
	}
	return namedComparing(name)
}

// namedComparing knows the operations from 16 on.
func namedComparing(name string) (uint8, bool) {
	switch name {
	case "LT":
		return Lt, true
	case "GT":
		return Gt, true
	case "SLT":
		return Slt, true
	case "SGT":
		return Sgt, true
	case "EQ":
		return Eq, true
	case "ISZERO":
		return Iszero, true
	case "AND":
		return And, true
	case "OR":
		return Or, true
	case "XOR":
		return Xor, true
	case "NOT":
		return Not, true
	case "BYTE":
		return Byte, true
	case "SHL":
		return Shl, true
	case "SHR":
		return Shr, true
	case "SAR":
		return Sar, true
	}
	return 0, false
}

// namedSurroundings knows what speaks of the frame and of other accounts, and
// what ends a frame.
func namedSurroundings(name string) (uint8, bool) {
	switch name {
	case "STOP":
		return Stop, true
	case "ADDRESS":
		return Address, true
	case "BALANCE":
		return Balance, true
	case "CALLER":
		return Caller, true
	case "CALLVALUE":
		return Callvalue, true
	case "CALLDATALOAD":
		return Calldataload, true
	case "CALLDATASIZE":
		return Calldatasize, true
	case "CALLDATACOPY":
		return Calldatacopy, true
	case "CODESIZE":
		return Codesize, true
	case "CODECOPY":
		return Codecopy, true
	case "RETURNDATASIZE":
		return Returndatasize, true
	case "RETURNDATACOPY":
		return Returndatacopy, true
	case "CALL":
		return Call, true
	case "RETURN":
		return Return, true
	case "DELEGATECALL":
		return Delegatecall, true
	case "STATICCALL":
		return Staticcall, true
	case "REVERT":
		return Revert, true
	}
	return 0, false
}

// namedKeeping knows what speaks of stack, memory, slots and places.
func namedKeeping(name string) (uint8, bool) {
	switch name {
	case "POP":
		return Pop, true
	case "MLOAD":
		return Mload, true
	case "MSTORE":
		return Mstore, true
	case "MSTORE8":
		return Mstore8, true
	case "SLOAD":
		return Sload, true
	case "SSTORE":
		return Sstore, true
	case "JUMP":
		return Jump, true
	case "JUMPI":
		return Jumpi, true
	case "PC":
		return Pc, true
	case "MSIZE":
		return Msize, true
	case "GAS":
		return Gas, true
	case "JUMPDEST":
		return Jumpdest, true
	case "TLOAD":
		return Tload, true
	case "TSTORE":
		return Tstore, true
	case "MCOPY":
		return Mcopy, true
	}
	return 0, false
}

// namedInRow knows the numbered ones. It makes each name and compares, so that
// no second way of writing a number ("DUP01") comes in.
func namedInRow(name string) (uint8, bool) {
	for i := range 16 {
		switch number := strconv.Itoa(i + 1); name {
		case "DUP" + number:
			return Dup1 + uint8(i), true
		case "SWAP" + number:
			return Swap1 + uint8(i), true
		}
	}
	for i := range 5 {
		if name == "LOG"+strconv.Itoa(i) {
			return Log0 + uint8(i), true
		}
	}
	return 0, false
}
