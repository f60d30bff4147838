package host_test

import (
	"strconv"
	"testing"

	"cinder/api"
	"cinder/word"
)

const (
	maxHex  = "0xffffffffffffffffffffffffffffffffffffffffffffffffffffffffffffffff"
	high64  = "0x10000000000000000"                                                 // 2^64: its lowest part is 0
	high192 = "0x1000000000000000000000000000000000000000000000000"                 // 2^192
	signBit = "0x8000000000000000000000000000000000000000000000000000000000000000"  // 2^255
	around  = "0xffffffffffffffffffffffffffffffffffffffffffffffffffffffffffffffe0 " // 2^256 - 32
)

func isCall(op int) bool { return op == 241 || op == 244 || op == 250 }

func isReckoning(op int) bool { return op >= 1 && op <= 11 || op >= 16 && op <= 29 }

// inTable: the instructions that the document's table has.
func inTable(op int) bool {
	switch {
	case op == 0, isReckoning(op), op >= 48 && op <= 49, op >= 51 && op <= 57, op >= 61 && op <= 62, op >= 80 && op <= 164, op == 243, op == 253, isCall(op):
		return true
	}
	return false
}

// Each byte, with the stack full of noughts: only what is not in the table
// fails, and JUMP, since at 0 stands no JUMPDEST.
func TestEveryByte(t *testing.T) {
	for op := range 256 {
		code := times("\x5f", 20) + string([]byte{byte(op)})
		if !inTable(op) || op == 86 {
			fails(t, "the byte "+strconv.Itoa(op), code, "", 100000)
			continue
		}
		r, _ := woken(t, code, "", 100000)
		want := api.Done
		if op == 253 {
			want = api.Reverted
		}
		if r.Status != want {
			t.Errorf("P6: the byte %d: %+v", op, r)
		}
	}
}

// taken is how many words an instruction needs on the stack.
func taken(op int) int {
	switch {
	case op == 21, op == 25, op == 49, op == 53, op == 80, op == 81, op == 84, op == 86, op == 92:
		return 1
	case op == 8, op == 9, op == 55, op == 57, op == 62, op == 94:
		return 3
	case isReckoning(op), op == 82, op == 83, op == 85, op == 87, op == 93, op == 243, op == 253:
		return 2
	case op >= 128 && op <= 143:
		return op - 127
	case op >= 144 && op <= 159:
		return op - 142
	case op >= 160 && op <= 164:
		return op - 158
	case op == 241:
		return 7
	case isCall(op):
		return 6
	}
	return 0
}

// laid is how many words more (or less) the stack has behind an instruction.
func laid(op int) int {
	switch {
	case op >= 48 && op != 49 && op != 53 && op <= 54, op == 56, op == 61, op >= 88 && op <= 90, op >= 95 && op <= 143:
		return 1
	case op == 49, op == 53, op == 81, op == 84, op == 92, op >= 144 && op <= 159, op == 0, op == 91:
		return 0
	case isReckoning(op), isCall(op):
		return 1 - taken(op)
	}
	return -taken(op)
}

func TestTooFewWords(t *testing.T) {
	for op := range 256 {
		if !inTable(op) || op == 86 || taken(op) == 0 {
			continue
		}
		name := "the byte " + strconv.Itoa(op)
		one := string([]byte{byte(op)})
		fails(t, name+" with a word too few", times("\x5f", taken(op)-1)+one, "", 100000)
		if r, _ := woken(t, times("\x5f", taken(op))+one, "", 100000); r.Status == api.Failed {
			t.Errorf("P6: %s with all its words fails", name)
		}
	}
}

// filled is a code whose stack has this many noughts, 50 at the least: in
// turns of 50, for a code has no room for all of them at once. The count of
// turns stands in a slot of the message: on the stack it would be in the way.
func filled(count int) string {
	turns := string([]byte{byte(count / 50)})
	return "\x60" + turns + "\x5f\x5d" + // TSTORE
		"\x5b" + // at 4
		times("\x5f", 46) +
		"\x60\x01\x5f\x5c\x03\x5f\x5d" + // 1 0 TLOAD SUB 0 TSTORE
		times("\x5f", 4) +
		"\x5f\x5c\x60\x04\x57" + // 0 TLOAD 4 JUMPI
		times("\x5f", count%50)
}

// The stack may have 1024 words and not one more, whatever lays it.
func TestFullStack(t *testing.T) {
	for op := range 256 {
		if !inTable(op) || op == 86 {
			continue
		}
		name := "the byte " + strconv.Itoa(op)
		one := string([]byte{byte(op)})
		if r, _ := woken(t, filled(1024)+one, "", 100000); (r.Status == api.Failed) != (laid(op) > 0) {
			t.Errorf("P6: %s upon 1024 words: %+v", name, r)
		}
		if r, _ := woken(t, filled(1023)+one, "", 100000); r.Status == api.Failed {
			t.Errorf("P6: %s upon 1023 words: %+v", name, r)
		}
	}
}

// Each operation, of words that no two orders or numbers of words take alike.
func TestOperations(t *testing.T) {
	for _, w := range [][3]api.Word{{n(3), n(1000), n(7)}, {n(1000), n(3), n(300)}, {top, n(2), n(9)}, {n(1), top, api.Word{0, 0, 0, 1 << 63}}} {
		for op := range 256 {
			if !isReckoning(op) {
				continue
			}
			words := 2
			if op == 8 || op == 9 {
				words = 3
			} else if op == 21 || op == 25 {
				words = 1
			}
			code := ""
			for i := words - 1; i >= 0; i-- {
				code += push32(w[i])
			}
			code += string([]byte{byte(op)})
			want, _ := word.Calc(uint8(op), w[0], w[1], w[2])
			r, _ := woken(t, code+"\x5f\x52\x60\x20\x5f\xf3", "", 100000)
			if r.Status != api.Done || told(r.Output) != told(push32(want)[1:]) {
				t.Errorf("P6: %d of %x: %d, %x, want %x", op, w, r.Status, r.Output, want)
			}
			cost := 3*words + 5
			if op == 10 {
				cost = 3*words + 10 + 10*bytesOf(w[1])
			}
			costs(t, "the operation "+strconv.Itoa(op), code, "", cost)
		}
	}
}

func push32(w api.Word) string {
	code := []byte{127}
	for i := 31; i >= 0; i-- {
		code = append(code, byte(w[i/8]>>(i%8*8)))
	}
	return string(code)
}

func bytesOf(w api.Word) int {
	for i := 31; i >= 0; i-- {
		if byte(w[i/8]>>(i%8*8)) != 0 {
			return i + 1
		}
	}
	return 0
}

func TestCostOfExp(t *testing.T) {
	for exponent, count := range map[string]int{"0": 0, "1": 1, "255": 1, "256": 2, "0xffff": 2, "0x10000": 3, "0xffffffffffffffff": 8, high64: 9, high192: 25, signBit: 32, maxHex: 32} {
		costs(t, "EXP with "+exponent, assembled(t, exponent+" 3 EXP"), "", 3+3+10+10*count)
	}
}

// What each other instruction costs, behind the pushes that it needs (of 3 gas
// each, which the numbers here have within).
func TestCosts(t *testing.T) {
	for src, gas := range map[string]int{
		"": 0, "STOP": 0, "STOP ADD": 0,
		"ADDRESS": 2, "CALLER": 2, "CALLVALUE": 2, "CALLDATASIZE": 2, "CODESIZE": 2, "RETURNDATASIZE": 2, "PC": 2, "MSIZE": 2, "GAS": 2,
		"5 POP": 5, "5 BALANCE": 103, "5 CALLDATALOAD": 6, "JUMPDEST": 1, "a:": 1,
		"0": 3, "1": 3, maxHex: 3,
		"7 MLOAD": 6 + 6, "0 MLOAD": 6 + 3, "0 MLOAD 0 MLOAD": 12 + 3, "32 MLOAD 1 MLOAD": 12 + 6, "1 MLOAD 32 MLOAD": 12 + 6, "33 MLOAD 32 MLOAD": 12 + 9,
		"9 0 MSTORE": 9 + 3, "9 1 MSTORE": 9 + 6, "9 32 MSTORE": 9 + 6, "9 0 MSTORE8": 9 + 3, "9 31 MSTORE8": 9 + 3, "9 32 MSTORE8": 9 + 6,
		"1 SLOAD": 103, "2 SLOAD": 103, "1 TLOAD": 103, "1 2 SSTORE": 206, "0 1 SSTORE": 206, "6 1 SSTORE": 206, "1 2 TSTORE": 106, "0 2 TSTORE": 106,
		"@a JUMP a:": 3 + 8 + 1, "1 @a JUMPI a:": 6 + 10 + 1, "1 @a JUMPI ADD a:": 6 + 10 + 1, "0 @a JUMPI a:": 6 + 10 + 1, "0 @a JUMPI 5 a:": 6 + 10 + 3 + 1,
		"0 0 RETURN": 6, "1 0 RETURN": 6 + 3, "33 0 RETURN": 6 + 6, "1 63 RETURN": 6 + 6, "1 64 RETURN": 6 + 9, "0 64 RETURN": 6,
		"0 0 0 MCOPY": 9 + 3, "1 0 0 MCOPY": 9 + 3 + 3 + 3, "32 0 0 MCOPY": 9 + 3 + 3 + 3, "33 0 0 MCOPY": 9 + 3 + 6 + 6, "1 64 0 MCOPY": 9 + 3 + 3 + 9, "1 0 64 MCOPY": 9 + 3 + 3 + 9, "32 1 32 MCOPY": 9 + 3 + 3 + 6, "65 0 1 MCOPY": 9 + 3 + 9 + 9,
		"0 0 RETURNDATASIZE RETURNDATACOPY": 6 + 2 + 3, "0 9 9 RETURNDATACOPY": 9 + 3,
	} {
		costs(t, src, assembled(t, src), "abc", gas)
	}
	for _, name := range []string{"CALLDATACOPY", "CODECOPY"} {
		for n, count := range map[string]int{"0": 0, "1": 1, "31": 1, "32": 1, "33": 2, "64": 2, "65": 3} {
			costs(t, n+" "+name, assembled(t, n+" 0 0 "+name), "abc", 9+3+6*count)
			costs(t, n+" behind "+name, assembled(t, n+" "+maxHex+" 0 "+name), "abc", 9+3+6*count)
		}
		costs(t, "apart "+name, assembled(t, "1 0 95 "+name), "abc", 9+3+3+9)
	}
}

func TestCostsOfRows(t *testing.T) {
	for i := range 33 {
		costs(t, "PUSH"+strconv.Itoa(i), string([]byte{byte(95 + i)})+times("\x5b", i), "", 3)
		costs(t, "PUSH at the end "+strconv.Itoa(i), string([]byte{byte(95 + i)}), "", 3)
	}
	for i := range 16 {
		costs(t, "DUP"+strconv.Itoa(i+1), times("\x5f", i+1)+string([]byte{byte(128 + i)}), "", 3*(i+1)+3)
		costs(t, "SWAP"+strconv.Itoa(i+1), times("\x5f", i+2)+string([]byte{byte(144 + i)}), "", 3*(i+2)+3)
	}
	for i := range 5 {
		name, pushes := "LOG"+strconv.Itoa(i), times("9 ", i)
		for n, more := range map[int]int{0: 0, 1: 8 + 3, 32: 32*8 + 3, 33: 33*8 + 6} {
			costs(t, name+" of "+strconv.Itoa(n), assembled(t, pushes+strconv.Itoa(n)+" 0 "+name), "", 3*(i+2)+300+more)
		}
	}
}

func TestWhatTheFrameWasGiven(t *testing.T) {
	data := "\x01\x02\x03" + times("\xff", 29) + "\x04\x05"
	for src, want := range map[string]api.Word{
		"ADDRESS": n(7), "CALLER": n(5), "CALLVALUE": n(3), "7 BALANCE": n(43), "5 BALANCE": n(97), "9 BALANCE": n(0), high64 + " BALANCE": n(0),
		"CALLDATASIZE": n(34), "CODESIZE": n(7), "1 CODESIZE ADD": n(11), "RETURNDATASIZE": n(0),
		"0 CALLDATALOAD": {ones, ones, ones, 0x010203ffffffffff}, "1 CALLDATALOAD": {0xffffffffffffff04, ones, ones, 0x0203ffffffffffff},
		"32 CALLDATALOAD": {0, 0, 0, 0x0405 << 48}, "33 CALLDATALOAD": {0, 0, 0, 5 << 56}, "34 CALLDATALOAD": n(0), "35 CALLDATALOAD": n(0),
		high64 + " CALLDATALOAD": n(0), high192 + " CALLDATALOAD": n(0), maxHex + " CALLDATALOAD": n(0), around + "CALLDATALOAD": n(0),
		"2 32 30 CALLDATACOPY 0 MLOAD": n(0x0405), "3 32 29 CALLDATACOPY 0 MLOAD": n(0x040500), "2 0 30 CALLDATACOPY 0 MLOAD": n(0x0102),
		maxHex + " 0 MSTORE 32 33 0 CALLDATACOPY 0 MLOAD":             {0, 0, 0, 5 << 56},
		maxHex + " 0 MSTORE 31 34 0 CALLDATACOPY 0 MLOAD":             n(255),
		maxHex + " 0 MSTORE 31 " + maxHex + " 0 CALLDATACOPY 0 MLOAD": n(255),
		maxHex + " 0 MSTORE 31 " + high64 + " 0 CALLDATACOPY 0 MLOAD": n(255),
		maxHex + " 0 MSTORE 0 0 0 CALLDATACOPY 0 MLOAD":               top,
		"4 0 28 CODECOPY 0 MLOAD":                                     n(0x60045f60),
		"40 4 0 CODECOPY 8 MLOAD 1 ADD 1 SUB ISZERO":                  n(0),
		maxHex + " 0 MSTORE 31 CODESIZE 0 CODECOPY 0 MLOAD":           n(255),
		maxHex + " 0 MSTORE 31 " + high192 + " 0 CODECOPY 0 MLOAD":    n(255),
		"0 0 " + maxHex + " CALLDATACOPY MSIZE":                       n(0),
		"0 " + maxHex + " " + maxHex + " CODECOPY MSIZE":              n(0),
		"0 " + maxHex + " " + maxHex + " RETURNDATACOPY MSIZE":        n(0),
		"PC":                         n(0),
		"1 POP 0x0102 POP PC":        n(7),
		"@a JUMP ADD a: PC":          n(6),
		"GAS":                        n(100000 - 2),
		"0 POP GAS":                  n(100000 - 3 - 2 - 2),
		"0 MLOAD POP GAS":            n(100000 - 3 - 3 - 3 - 2 - 2),
		"7 CALLDATALOAD 7 EQ ISZERO": n(1),
	} {
		gives(t, src, data, want)
	}
	gives(t, "0 CALLDATALOAD", "", n(0))
	gives(t, "CALLDATASIZE", times("x", 500), n(500))
	gives(t, "499 CALLDATALOAD", times("\x01", 500), api.Word{0, 0, 0, 1 << 56})
}

// Returned is nothing as long as no other code was called.
func TestNothingReturned(t *testing.T) {
	for _, words := range []string{"1 0 0", "1 1 0", "32 0 0", maxHex + " 0 0", "1 " + maxHex + " 0", "2 " + maxHex + " 0", high64 + " 0 0"} {
		fails(t, words+" RETURNDATACOPY", assembled(t, words+" RETURNDATACOPY"), "", 100000)
	}
	for _, words := range []string{"0 0 0", "0 1 0", "0 0 1", "0 " + maxHex + " " + maxHex} {
		costs(t, words+" RETURNDATACOPY", assembled(t, words+" RETURNDATACOPY"), "", 12)
	}
}

func TestStackWords(t *testing.T) {
	for src, want := range map[string]api.Word{
		"1 2 POP": n(1), "0": n(0), "255": n(255), maxHex: top, high192: {0, 0, 0, 1}, "0x0102030405060708090a0b0c0d0e0f101112": {0x0b0c0d0e0f101112, 0x030405060708090a, 0x0102},
	} {
		gives(t, src, "", want)
	}
	numbers := ""
	for i := range 17 {
		numbers += strconv.Itoa(17-i) + " "
	}
	for i := 1; i <= 16; i++ {
		number := strconv.Itoa(i)
		gives(t, numbers+"DUP"+number, "", n(i))
		gives(t, numbers+"DUP"+number+" POP", "", n(1))
		gives(t, numbers+"SWAP"+number, "", n(i+1))
		gives(t, numbers+"SWAP"+number+" "+times("POP ", i), "", n(1))
		// Between the two nothing changes.
		for k := 1; k < i; k++ {
			gives(t, numbers+"SWAP"+number+" "+times("POP ", k), "", n(k+1))
		}
	}
}

// Behind the code stand noughts for a push, and then STOP: so no later
// instruction sees that word, and only its cost and the end can be asked for.
func TestPushAtTheEnd(t *testing.T) {
	for i := range 33 {
		for k := range i + 1 {
			push := string([]byte{byte(95 + i)}) + times("\x5b", k)
			costs(t, "a push at the end", push, "", 3)
			costs(t, "a push at the last place", times("\x5b", 999-k)+push, "", 999-k+3)
		}
	}
}

func TestMemory(t *testing.T) {
	for src, want := range map[string]api.Word{
		"MSIZE": n(0), "0 MLOAD": n(0), "0 MLOAD POP MSIZE": n(32), "1 MLOAD POP MSIZE": n(64), "32 MLOAD POP MSIZE": n(64), "33 MLOAD POP MSIZE": n(96), "64 MLOAD POP 0 MLOAD POP MSIZE": n(96),
		"9 0 MSTORE8 MSIZE": n(32), "9 31 MSTORE8 MSIZE": n(32), "9 32 MSTORE8 MSIZE": n(64),
		maxHex + " 3 MSTORE 3 MLOAD": top, maxHex + " 3 MSTORE 0 MLOAD": {ones, ones, ones, 0x000000ffffffffff}, maxHex + " 3 MSTORE 32 MLOAD": {0, 0, 0, 0xffffff << 40},
		"0x0102030405060708090a0b0c0d0e0f101112131415161718191a1b1c1d1e1f20 0 MSTORE 0 MLOAD": {0x191a1b1c1d1e1f20, 0x1112131415161718, 0x090a0b0c0d0e0f10, 0x0102030405060708},
		"0x1234 31 MSTORE8 0 MLOAD": n(0x34), maxHex + " 0 MSTORE 0x100 31 MSTORE8 0 MLOAD": {ones - 255, ones, ones, ones}, "7 0 MSTORE8 0 MLOAD": {0, 0, 0, 7 << 56},
		"1 0 MSTORE 2 0 MSTORE 0 MLOAD": n(2),
		// MCOPY reads the memory as it was, whichever part is ahead.
		"0x010203 0 MSTORE 3 29 30 MCOPY 0 MLOAD": n(0x010102), "0x010203 0 MSTORE 3 29 28 MCOPY 0 MLOAD": n(0x01020303), "0x010203 0 MSTORE 32 0 32 MCOPY 32 MLOAD": n(0x010203),
		"0x010203 0 MSTORE 32 0 32 MCOPY 0 MLOAD": n(0x010203), "0x010203 0 MSTORE 32 32 0 MCOPY 0 MLOAD": n(0), "7 0 MSTORE 32 0 0 MCOPY 0 MLOAD": n(7),
		"1 64 0 MCOPY MSIZE": n(96), "1 0 64 MCOPY MSIZE": n(96), "0 64 64 MCOPY MSIZE": n(0), "0 " + maxHex + " " + maxHex + " MCOPY MSIZE": n(0), "33 0 0 MCOPY MSIZE": n(64),
		"5 0 0 CALLDATACOPY MSIZE": n(32), "33 0 0 CODECOPY MSIZE": n(64), "0 0 LOG0 MSIZE": n(0), "0 " + maxHex + " LOG0 MSIZE": n(0), "1 32 LOG0 MSIZE": n(64),
		"65504 MLOAD POP MSIZE": n(65536), "9 65535 MSTORE8 MSIZE": n(65536),
	} {
		gives(t, src, "", want)
	}
}

// The memory may have 65536 bytes, and none more, whatever speaks of them.
func TestMemoryBound(t *testing.T) {
	const all = 2048 * 3 // the whole memory
	for src, gas := range map[string]int{
		"65504 MLOAD": 6 + all, "9 65504 MSTORE": 9 + all, "9 65535 MSTORE8": 9 + all, "1 65535 RETURN": 6 + all, "65536 0 RETURN": 6 + all,
		"1 65535 LOG0": 6 + 300 + 8 + all, "1 0 65535 CALLDATACOPY": 9 + 3 + 3 + all, "65536 0 0 CODECOPY": 9 + 3 + all + all, "65536 0 0 MCOPY": 9 + 3 + all + all,
		"1 65535 0 MCOPY": 9 + 3 + 3 + all, "1 0 65535 MCOPY": 9 + 3 + 3 + all, "6000 59536 LOG0": 6 + 300 + 8*6000 + all,
	} {
		costs(t, src, assembled(t, src), "", gas)
	}
	places := []string{"65505", "65536", "65537", "0xffffffff", "0xffffffffffffffe0", "0xffffffffffffffff", high64, high192, signBit, around, maxHex}
	for _, place := range places {
		fails(t, place+" MLOAD", assembled(t, place+" MLOAD"), "", 100000)
		fails(t, place+" MSTORE", assembled(t, "9 "+place+" MSTORE"), "", 100000)
		for _, name := range []string{"RETURN", "REVERT", "LOG0"} {
			fails(t, "32 "+place+" "+name, assembled(t, "32 "+place+" "+name), "", 100000)
		}
		for _, name := range []string{"CALLDATACOPY", "CODECOPY", "MCOPY"} {
			fails(t, "32 0 "+place+" "+name, assembled(t, "32 0 "+place+" "+name), "", 100000)
		}
		fails(t, "32 "+place+" 0 MCOPY", assembled(t, "32 "+place+" 0 MCOPY"), "", 100000)
	}
	for _, place := range places[1:] {
		fails(t, place+" MSTORE8", assembled(t, "9 "+place+" MSTORE8"), "", 100000)
	}
	for _, n := range append(places[2:], "65536") {
		for _, name := range []string{"RETURN", "REVERT", "LOG0"} {
			fails(t, n+" 1 "+name, assembled(t, n+" 1 "+name), "", 100000)
		}
		for _, name := range []string{"CALLDATACOPY", "CODECOPY", "MCOPY"} {
			fails(t, n+" 0 1 "+name, assembled(t, n+" 0 1 "+name), "", 100000)
			fails(t, n+" "+maxHex+" "+maxHex+" "+name, assembled(t, n+" "+maxHex+" "+maxHex+" "+name), "", 100000)
		}
	}
	// A place and a number that wrap round to little are too much too.
	fails(t, "a part that wraps round", assembled(t, maxHex+" 2 RETURN"), "", 100000)
	fails(t, "a place that wraps round", assembled(t, "2 "+maxHex+" RETURN"), "", 100000)
	fails(t, "a part of 2^64", assembled(t, "0xffffffffffffffff 1 RETURN"), "", 100000)
}

func TestSlots(t *testing.T) {
	for src, want := range map[string]api.Word{
		"1 SLOAD": n(6), "2 SLOAD": n(0), maxHex + " SLOAD": top, high64 + " SLOAD": n(0), "4 1 SSTORE 1 SLOAD": n(4), "0 1 SSTORE 1 SLOAD": n(0), "4 1 SSTORE 2 SLOAD": n(0),
		"8 " + high192 + " SSTORE " + high192 + " SLOAD": n(8), "8 " + high192 + " SSTORE 0 SLOAD": n(0), "4 2 SSTORE 5 2 SSTORE 2 SLOAD": n(5),
		"1 TLOAD": n(0), "4 1 TSTORE 1 TLOAD": n(4), "4 1 TSTORE 1 SLOAD": n(6), "4 1 SSTORE 1 TLOAD": n(0), "4 1 TSTORE 0 1 TSTORE 1 TLOAD": n(0), "4 1 TSTORE 2 TLOAD": n(0),
		"4 " + maxHex + " TSTORE " + maxHex + " TLOAD": n(4),
	} {
		gives(t, src, "", want)
	}
	code := assembled(t, "9 0 SSTORE 0 1 SSTORE 7 "+high192+" SSTORE 5 3 SSTORE 0 3 SSTORE 1 4 TSTORE 0 5 SSTORE")
	_, world := woken(t, code, "", 10000)
	same(t, "P6: slots", world[1].Slots, []api.Slot{{Key: n(0), Value: n(9)}, {Key: api.Word{0, 0, 0, 1}, Value: n(7)}, {Key: top, Value: top}})
}

// Slots of a message are 0 when the next one comes, however the last ended.
func TestSlotsOfAMessage(t *testing.T) {
	h := made(t, api.Account{At: n(7), Code: assembled(t, "0 TLOAD 0 MSTORE 5 0 TSTORE CALLDATASIZE 1 EQ @a JUMPI CALLDATASIZE 2 EQ @b JUMPI 32 0 RETURN a: 32 0 REVERT b: ADD ADD ADD")})
	for _, data := range []string{"", "", "x", "", "xx", ""} {
		r := sent(t, h, api.Message{To: n(7), Data: data, Gas: 5000})
		if r.Status == api.Failed != (data == "xx") || r.Status != api.Failed && r.Output != times("\x00", 32) {
			t.Errorf("P6: slot 0 of a message of %q: %+v", data, r)
		}
	}
}

func TestJumps(t *testing.T) {
	for src, want := range map[string]api.Word{
		"@a JUMP 5 a: 9": n(9), "4 1 @a JUMPI 5 a:": n(4), "4 0 @a JUMPI 5 a:": n(5), "4 " + high192 + " @a JUMPI 5 a:": n(4), "4 " + signBit + " @a JUMPI 5 a:": n(4),
		"0 JUMPDEST 1 ADD DUP1 5 SUB 1 JUMPI": n(5),
		// A place that is not gone to is not looked at.
		"5 0 0 JUMPI": n(5), "5 0 " + maxHex + " JUMPI": n(5),
		// A JUMPDEST behind a push of all its bytes is one.
		"4 JUMP 0 a: 7": n(7),
	} {
		gives(t, src, "", want)
	}
	for name, code := range map[string]string{
		"to STOP":                  "\x60\x03\x56\x00",
		"to behind the code":       "\x60\x03\x56",
		"to far behind":            "\x60\xff\x56",
		"to a push's byte":         "\x60\x04\x56\x60\x5b",
		"to a push's last byte":    "\x60\x05\x56\x61\x00\x5b",
		"to a byte of PUSH32":      "\x60\x23\x56\x7f" + times("\x5b", 32),
		"to a push that's cut off": "\x60\x04\x56\x7f\x5b",
		"to itself":                "\x60\x02\x56",
		"to a push of itself":      "\x60\x5b\x60\x01\x56",
		"to 2^64 and a JUMPDEST":   "\x5b\x68\x01\x00\x00\x00\x00\x00\x00\x00\x00\x56",
		"to 2^192 and a JUMPDEST":  "\x5b\x78\x01" + times("\x00", 24) + "\x56",
		"to 2^256 - 1":             "\x7f" + times("\xff", 32) + "\x56",
		"if, to STOP":              "\x60\x01\x60\x05\x57\x00",
		"if, behind the code":      "\x60\x01\x60\x05\x57",
		"if, to a push's byte":     "\x60\x01\x60\x06\x57\x60\x5b",
		"if, to 2^64 + 0":          "\x5b\x60\x01\x68\x01\x00\x00\x00\x00\x00\x00\x00\x00\x57",
	} {
		fails(t, "a jump "+name, code, "", 1000)
	}
	for name, code := range map[string]string{
		"behind PUSH0":          "\x60\x04\x56\x5f\x5b",
		"behind PUSH32":         "\x60\x24\x56\x7f" + times("\x5b", 33),
		"behind what is none":   "\x60\x04\x56\xff\x5b",
		"behind DUP1":           "\x60\x04\x56\x80\x5b",
		"behind a push of push": "\x60\x05\x56\x60\x7f\x5b",
		"the last byte":         "\x60\x03\x56\x5b",
	} {
		costs(t, "a jump "+name, code, "", 3+8+1)
	}
	// The last place that a code may have.
	costs(t, "a jump to 999", "\x61\x03\xe7\x56"+times("\x00", 995)+"\x5b", "", 3+8+1)
	for _, src := range []string{"a: @a JUMP", "a: 1 @a JUMPI"} {
		fails(t, src, assembled(t, src), "", 100000)
	}
}

func TestLogs(t *testing.T) {
	code := assembled(t, "0x0102 0 MSTORE 2 30 LOG0 "+maxHex+" 33 0 LOG1 4 3 0 "+maxHex+" LOG2 3 2 1 1 31 LOG3 4 3 2 1 0 0 LOG4 7 0 MSTORE")
	r, _ := woken(t, code, "", 10000)
	same(t, "P6: logs", r.Logs, []api.Log{
		{At: n(7), Data: "\x01\x02"},
		{At: n(7), Topics: []api.Word{top}, Data: times("\x00", 30) + "\x01\x02\x00"},
		{At: n(7), Topics: []api.Word{n(3), n(4)}},
		{At: n(7), Topics: []api.Word{n(1), n(2), n(3)}, Data: "\x02"},
		{At: n(7), Topics: []api.Word{n(1), n(2), n(3), n(4)}},
	})
}

func TestEnds(t *testing.T) {
	changes := "9 1 SSTORE 8 2 SSTORE 0 " + maxHex + " SSTORE 1 0 LOG0 7 0 MSTORE8 "
	const cost = 3*206 + 6 + 300 + 8 + 3 + 9
	data := "\x07" + times("\x00", 32)
	for src, want := range map[string]api.Result{
		changes:                             {Gas: 10000 - cost},
		changes + "STOP ADD":                {Gas: 10000 - cost},
		changes + "33 0 RETURN ADD":         {Gas: 10000 - cost - 6 - 3, Output: data},
		changes + "0 " + maxHex + " RETURN": {Gas: 10000 - cost - 6},
		changes + "33 0 REVERT ADD":         {Gas: 10000 - cost - 6 - 3, Output: data, Status: api.Reverted},
		changes + "0 " + maxHex + " REVERT": {Gas: 10000 - cost - 6, Status: api.Reverted},
		changes + "ADD":                     {Status: api.Failed},
		changes + "33 0 MSTORE 0 JUMP":      {Status: api.Failed},
		changes + "a: @a JUMP":              {Status: api.Failed},
	} {
		code := assembled(t, src)
		world := before(code)
		if want.Status == api.Done {
			want.Logs = []api.Log{{At: n(7), Data: "\x00"}}
			world[0].Balance, world[1].Balance = n(97), n(43)
			world[1].Slots = []api.Slot{{Key: n(1), Value: n(9)}, {Key: n(2), Value: n(8)}}
		}
		r, after := woken(t, code, "", 10000)
		same(t, "P6: "+src, r, want)
		same(t, "P6: the world behind "+src, after, world)
	}
}

// A message that is not Done does not even leave an account where money went.
func TestNoTraceOfMoney(t *testing.T) {
	for _, src := range []string{"0 0 REVERT", "ADD"} {
		world := []api.Account{{At: n(5), Balance: n(3)}, {At: n(7), Code: assembled(t, src)}}
		h := made(t, world...)
		for _, from := range []api.Word{n(5), n(7)} {
			value := n(3)
			if from == n(7) {
				value = none
			}
			if r := sent(t, h, api.Message{From: from, To: n(7), Value: value, Gas: 100}); r.Status == api.Done {
				t.Errorf("P6: %s ends Done", src)
			}
			same(t, "P6: the world behind "+src, h.World(), world)
		}
	}
}

// The examples of the document.
func TestExamples(t *testing.T) {
	h := made(t, api.Account{At: n(7), Code: assembled(t, "CALLER 0 SSTORE")})
	same(t, "P6: the result", sent(t, h, api.Message{From: n(5), To: n(7), Gas: 1000}), api.Result{Gas: 795})
	same(t, "P6: the slots", h.World()[0].Slots, []api.Slot{{Value: n(5)}})
	fails(t, "0 JUMP", assembled(t, "0 JUMP"), "", 1000)
	r, _ := woken(t, assembled(t, "1 0 MSTORE 32 0 RETURN"), "", 18)
	same(t, "P6: the result", r, api.Result{Output: times("\x00", 31) + "\x01"})
}

// The most that a message may spend, and one unit more.
func TestMostGas(t *testing.T) {
	// 11000 bytes have 344 steps; the rest is 51 times 206, and 52 times 3.
	code := assembled(t, "11000 0 LOG0 "+times("1 2 SSTORE ", 51)+times("0 ", 52))
	if r, _ := woken(t, code, "", 100000); r.Status != api.Done || r.Gas != 0 || len(r.Logs) != 1 || len(r.Logs[0].Data) != 11000 {
		t.Errorf("P6: all the gas that there may be: %d, %d left", r.Status, r.Gas)
	}
	fails(t, "a unit more", code+"\x5b", "", 100000)
	costs(t, "all code of JUMPDEST", times("\x5b", 1000), "", 1000)
}
