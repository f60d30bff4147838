package host_test

import (
	"fmt"
	"strconv"
	"testing"

	"cinder/api"
)

// ahead is the world in which codes call one another: 7 is woken, 8 and 9 are
// there to be called.
func ahead(t *testing.T, seven, eight, nine string) []api.Account {
	t.Helper()
	return []api.Account{
		{At: n(5), Balance: n(100)},
		{At: n(7), Balance: n(40), Code: assembled(t, seven), Slots: []api.Slot{{Key: n(1), Value: n(6)}}},
		{At: n(8), Balance: n(10), Code: assembled(t, eight), Slots: []api.Slot{{Key: n(1), Value: n(60)}, {Key: n(2), Value: n(61)}}},
		{At: n(9), Balance: n(2), Code: assembled(t, nine), Slots: []api.Slot{{Key: n(1), Value: n(70)}}},
	}
}

// calling is what comes of that when 5 wakes 7 with the money 3.
func calling(t *testing.T, world []api.Account, gas int) (api.Result, []api.Account) {
	t.Helper()
	h := made(t, world...)
	r := sent(t, h, api.Message{From: n(5), To: n(7), Value: n(3), Data: "abc", Gas: gas})
	return r, h.World()
}

func bytes32(words ...int) string {
	s := ""
	for _, w := range words {
		s += push32(n(w))[1:]
	}
	return s
}

// answers says what 7 gives out.
func answers(t *testing.T, what, seven, eight, nine, want string) {
	t.Helper()
	r, _ := calling(t, ahead(t, seven, eight, nine), 100000)
	if r.Status != api.Done || r.Output != want {
		t.Errorf("P6: %s: %d, %x, want %x\n7: %s\n8: %s\n9: %s", what, r.Status, r.Output, want, seven, eight, nine)
	}
}

// leaves says what is there behind a message that ends Done: money and small
// slots as a text, and the logs as the accounts that they are of and their data.
func leaves(t *testing.T, what, seven, eight, nine, want string) {
	t.Helper()
	r, world := calling(t, ahead(t, seven, eight, nine), 100000)
	if got := toldShortly(world, r.Logs); r.Status != api.Done || got != want {
		t.Errorf("P6: %s: %d, %s\nwant %s\n7: %s\n8: %s\n9: %s", what, r.Status, got, want, seven, eight, nine)
	}
}

func toldShortly(world []api.Account, logs []api.Log) string {
	s := ""
	for _, a := range world {
		s += fmt.Sprintf("%d:%d", a.At[0], a.Balance[0])
		for _, x := range a.Slots {
			s += fmt.Sprintf(" %d=%d", x.Key[0], x.Value[0])
		}
		s += "; "
	}
	for _, l := range logs {
		s += fmt.Sprintf("%d", l.At[0])
		for _, topic := range l.Topics {
			s += fmt.Sprintf(" %d", topic[0])
		}
		s += "! "
	}
	return s
}

// callOf is a call without data and room; of CALL with a value.
func callOf(name, to, value, gas string) string {
	if name != "CALL" {
		return "0 0 0 0 " + to + " " + gas + " " + name + " "
	}
	return "0 0 0 0 " + value + " " + to + " " + gas + " CALL "
}

// rest of a call, behind the two parts of memory, without money.
func rest(name, to string) string {
	if name == "CALL" {
		return "0 " + to + " GAS CALL"
	}
	return to + " GAS " + name
}

// costOf is what callOf costs, with its pushes.
func costOf(name, value string) int {
	switch {
	case name != "CALL":
		return 6*3 + 100
	case value == "0":
		return 7*3 + 100
	}
	return 7*3 + 1000
}

var callNames = []string{"CALL", "DELEGATECALL", "STATICCALL"}

const untouched = "7:43 1=6; 8:10 1=60 2=61; 9:2 1=70; "

// What calls cost: with just this gas they are Done, with one less the frame
// that calls fails.
func TestCostsOfCalls(t *testing.T) {
	for src, gas := range map[string]int{
		"0 0 0 0 0 8 0 CALL": 21 + 100, "0 0 0 0 8 0 DELEGATECALL": 18 + 100, "0 0 0 0 8 0 STATICCALL": 18 + 100,
		"0 0 0 0 0 7 0 CALL": 21 + 100, // of 7 itself, which has no gas to begin
		"0 0 0 0 1 8 0 CALL": 21 + 1000, "0 0 0 0 43 8 0 CALL": 21 + 1000, "0 0 0 0 " + high64 + " 8 0 CALL": 21 + 1000,
		"0 0 0 0 44 8 0 CALL": 21 + 1000, "0 0 0 0 " + maxHex + " 8 0 CALL": 21 + 1000, // not made, but paid for
		"0 0 0 0 0 66 0 CALL": 21 + 100, "0 0 0 0 3 66 0 CALL": 21 + 1000, "0 0 0 0 66 0 DELEGATECALL": 18 + 100, "0 0 0 0 66 0 STATICCALL": 18 + 100,
		"0 0 0 0 0 8 " + maxHex + " CALL": 21 + 100, "0 0 0 0 8 " + maxHex + " STATICCALL": 18 + 100,
	} {
		callCosts(t, src, gas)
	}
}

// Both parts of memory are paid for ahead of the call, made or not.
func TestMemoryOfCalls(t *testing.T) {
	for parts, steps := range map[string]int{
		"0 0 0 0": 0, "0 0 1 0": 1, "1 0 0 0": 1, "32 0 32 0": 1, "64 0 32 0": 2, "32 0 64 0": 2, "33 0 1 0": 2, "1 0 33 0": 2, "1 95 1 0": 3, "1 0 1 95": 3, "1 96 1 95": 4, "1 0 1 96": 4,
		"0 " + maxHex + " 0 " + maxHex: 0, "0 65536 1 64": 3, "1 64 0 65536": 3, "1 65535 0 0": 2048, "0 0 1 65535": 2048, "65536 0 0 0": 2048, "0 0 65536 0": 2048, "65536 0 65536 0": 2048,
	} {
		callCosts(t, parts+" 0 8 0 CALL", 21+100+3*steps)
		callCosts(t, parts+" 1 8 0 CALL", 21+1000+3*steps)
		callCosts(t, parts+" 44 8 0 CALL", 21+1000+3*steps)
		callCosts(t, parts+" 8 0 DELEGATECALL", 18+100+3*steps)
		callCosts(t, parts+" 8 0 STATICCALL", 18+100+3*steps)
		for _, rest := range []string{"0 8 0 CALL", "44 8 0 CALL", "8 0 DELEGATECALL", "8 0 STATICCALL"} {
			answers(t, "the memory's length", parts+" "+rest+" POP MSIZE 0 MSTORE 32 0 RETURN", "", "", bytes32(32*steps))
		}
	}
	for _, part := range []string{"1 65536", "65536 1", "2 65535", "65537 0", "1 " + high64, "1 " + high192, "1 " + maxHex, "2 " + maxHex, "32 " + around, maxHex + " 0", maxHex + " 1", maxHex + " 2", high64 + " 0", high192 + " 1"} {
		for _, parts := range []string{part + " 0 0 ", "0 0 " + part + " "} {
			for _, rest := range []string{"0 8 0 CALL", "44 8 0 CALL", "8 0 DELEGATECALL", "8 0 STATICCALL"} {
				world := ahead(t, parts+rest, "", "")
				r, after := calling(t, world, 100000)
				same(t, "P6: "+parts+rest+" must fail", r, api.Result{Status: api.Failed})
				same(t, "P6: "+parts+rest+" must leave no trace", after, world)
			}
		}
	}
}

// callCosts: of one that is called without need of gas.
func callCosts(t *testing.T, src string, gas int) {
	t.Helper()
	for _, more := range []int{0, 1, 11, 700} {
		world := ahead(t, src, "", "")
		if r, _ := calling(t, world, gas+more); r.Status != api.Done || r.Gas != more {
			t.Errorf("P6: %s with the gas %d: %+v, want Done and %d left", src, gas+more, r, more)
		}
	}
	world := ahead(t, src, "", "")
	r, after := calling(t, world, gas-1)
	same(t, "P6: "+src+" with too little gas", r, api.Result{Status: api.Failed})
	same(t, "P6: "+src+" with too little gas leaves no trace", after, world)
}

// The new frame is given what it asks for, up to what is left less a 64th. 8
// fails, so all that it was given is gone.
func TestGasThatIsGiven(t *testing.T) {
	for _, name := range callNames {
		for left := range 400 {
			kept := left / 64
			for asked, given := range map[string]int{
				"0": 0, "1": min(1, left), "63": min(63, left-kept), "64": min(64, left-kept), "100": min(100, left-kept), strconv.Itoa(left): left - kept, strconv.Itoa(left - kept): left - kept, strconv.Itoa(left - kept + 1): left - kept,
				high64: left - kept, high192: left - kept, maxHex: left - kept,
			} {
				src := callOf(name, "8", "0", asked)
				r, _ := calling(t, ahead(t, src, "ADD", ""), costOf(name, "0")+left)
				if r.Status != api.Done || r.Gas != left-given {
					t.Fatalf("P6: %s with %d left: %+v, want %d left", src, left, r, left-given)
				}
			}
		}
	}
	// What the called frame sees itself: its GAS costs 2. Of the 99876 that are
	// left (99877, where GAS asks) 1560 stay.
	for asked, want := range map[string]int{"1000": 998, "90000": 89998, "98315": 98313, "98316": 98314, "98317": 98314, maxHex: 98314, "GAS": 98315} {
		answers(t, "gas of the called frame, asked for "+asked, "32 0 0 0 0 8 "+asked+" CALL 32 0 RETURN", "GAS 0 MSTORE 32 0 RETURN", "", bytes32(want))
	}
}

// What the memory of both parts and the 900 cost is not there to be given.
func TestGasIsGivenBehindTheCosts(t *testing.T) {
	for src, cost := range map[string]int{
		"0 0 0 0 1 8 " + maxHex + " CALL": 1021, "64 0 32 0 0 8 " + maxHex + " CALL": 127, "32 0 64 0 0 8 " + maxHex + " CALL": 127, "1 640 1 0 8 " + maxHex + " DELEGATECALL": 118 + 63, "1 0 1 640 8 " + maxHex + " STATICCALL": 118 + 63,
	} {
		for _, left := range []int{0, 1, 63, 64, 65, 127, 128, 6400, 6463} {
			if r, _ := calling(t, ahead(t, src, "ADD", ""), cost+left); r.Status != api.Done || r.Gas != left/64 {
				t.Errorf("P6: %s with %d left: %+v, want %d left", src, left, r, left/64)
			}
		}
	}
}

// How much comes back, by how the called frame ended.
func TestGasThatComesBack(t *testing.T) {
	for eight, spent := range map[string]int{
		"": 0, "STOP": 0, "STOP ADD": 0, "1 POP": 5, "0 0 RETURN": 6, "32 0 RETURN": 9, "0 0 REVERT": 6, "64 0 REVERT": 12, "GAS GAS GAS 0 0 REVERT": 12,
		"ADD": 500, "0 JUMP": 500, "a: @a JUMP": 500, "1 1 1 POP POP POP POP": 500, "65536 MLOAD": 500, "1 0 0 RETURNDATACOPY": 500,
		"1 0 SLOAD POP": 106 + 2, "0 0 0 0 9 0 DELEGATECALL": 118, "0 0 0 0 9 0 STATICCALL 0 0 REVERT": 124, "0 0 0 0 0 9 200 CALL": 121 + 200, "0 0 0 0 0 9 200 CALL 0 0 REVERT": 127 + 200, "0 0 0 0 0 9 200 CALL ADD ADD": 500,
		"0 0 0 0 0 9 " + maxHex + " CALL": 121 + 379 - 379/64,
	} {
		for _, name := range callNames {
			src := callOf(name, "8", "0", "500")
			want := 5000 - costOf(name, "0") - spent
			if r, _ := calling(t, ahead(t, src, eight, "ADD"), 5000); r.Status != api.Done || r.Gas != want {
				t.Errorf("P6: %s of %s: %+v, want %d left", src, eight, r, want)
			}
		}
	}
	// A unit less than what the called frame needs, and it fails alone.
	answers(t, "with all its gas", "0 0 0 0 0 8 5 CALL 0 MSTORE 32 0 RETURN", "1 POP", "", bytes32(1))
	answers(t, "with a unit less", "0 0 0 0 0 8 4 CALL 0 MSTORE 32 0 RETURN", "1 POP", "", bytes32(0))
}

// The gas of a call that is not made comes back, whatever it asked for.
func TestGasOfACallThatIsNotMade(t *testing.T) {
	for _, asked := range []string{"0", "1", "500", "4000", high64, maxHex} {
		src := callOf("CALL", "8", "44", asked)
		if r, _ := calling(t, ahead(t, src, "ADD", ""), 5000); r.Status != api.Done || r.Gas != 5000-1021 {
			t.Errorf("P6: %s: %+v, want %d left", src, r, 5000-1021)
		}
	}
}

// Each call of oneself goes one deeper: 15 of them are made, by whichever way.
func TestDepth(t *testing.T) {
	for _, name := range callNames {
		answers(t, "the depth by "+name, "32 0 0 0 "+rest(name, "7")+" 0 MLOAD ADD 0 MSTORE 32 0 RETURN", "", "", bytes32(15))
	}
	for _, three := range [][3]string{{"CALL", "DELEGATECALL", "STATICCALL"}, {"STATICCALL", "CALL", "CALL"}, {"DELEGATECALL", "DELEGATECALL", "CALL"}} {
		var codes [3]string
		for i, name := range three {
			codes[i] = "32 0 0 0 " + rest(name, []string{"8", "9", "7"}[i]) + " 0 MLOAD ADD 0 MSTORE 32 0 RETURN"
		}
		answers(t, "the depth by turns", codes[0], codes[1], codes[2], bytes32(15))
	}
}

// At a depth that is given, 7 does something: it gives out that result.
func atDepth(depth int, probe string) string {
	return "1 0 TLOAD ADD DUP1 0 TSTORE " + strconv.Itoa(depth) + " EQ @there JUMPI 96 0 0 0 0 7 GAS CALL POP 96 0 RETURN there: " + probe + " 96 0 RETURN"
}

func TestDepthOf16(t *testing.T) {
	for depth := 1; depth <= 16; depth++ {
		for _, name := range callNames {
			// 9 gives out a byte and is asked for with the gas 500: what it takes is told, what is returned, and what is laid.
			probe := "GAS " + callOf(name, "9", "1", "500") + "0 MSTORE RETURNDATASIZE 32 MSTORE GAS SWAP1 SUB 64 MSTORE"
			cost := costOf(name, "1") + 9 + 2 + 9 + 2
			want := bytes32(1, 1, cost+9)
			if depth == 16 {
				want = bytes32(0, 0, cost)
			}
			answers(t, name+" in the depth "+strconv.Itoa(depth), atDepth(depth, probe), "", "1 0 RETURN", want)
		}
	}
	for depth, money := range map[int]string{15: "7:42 0=15 1=6; 8:10 1=60 2=61; 9:3 1=70; ", 16: "7:43 0=16 1=6; 8:10 1=60 2=61; 9:2 1=70; "} {
		leaves(t, "money in the depth "+strconv.Itoa(depth), atDepth(depth, "0 0 0 0 1 9 0 CALL 0 TLOAD 0 SSTORE"), "", "", "5:97; "+money)
	}
	// The depth goes back with the frame: side by side, calls are not deeper.
	sides := times("0 0 0 0 0 8 0 CALL ADD ", 30)
	answers(t, "calls side by side", "0 "+sides+"0 MSTORE 32 0 RETURN", "", "", bytes32(30))
	// A frame that was at the depth of 16 may be followed by another.
	answers(t, "again to the depth", "CALLVALUE 3 EQ @first JUMPI 32 0 0 0 0 7 GAS CALL 0 MLOAD ADD 0 MSTORE 32 0 RETURN first: 32 0 0 0 0 7 40000 CALL POP 32 32 0 0 0 7 40000 CALL POP 64 0 RETURN", "", "", bytes32(14, 14))
}

func TestMoneyOfCalls(t *testing.T) {
	said := " 0 MSTORE RETURNDATASIZE 32 MSTORE 64 0 RETURN"
	for value, made := range map[string]int{"0": 1, "1": 1, "42": 1, "43": 1, "44": 0, "100": 0, high64: 0, high192: 0, maxHex: 0, signBit: 0} {
		for _, to := range []string{"7", "8", "9"} {
			code := "CALLER 7 EQ @again JUMPI 0 0 0 0 " + value + " " + to + " GAS CALL" + said + " again: 5 0 RETURN"
			answers(t, "a call of "+to+" with "+value, code, "5 0 RETURN", "5 0 RETURN", bytes32(made, 5*made))
		}
	}
	leaves(t, "some", callOf("CALL", "8", "13", "0"), "", "", "5:97; 7:30 1=6; 8:23 1=60 2=61; 9:2 1=70; ")
	leaves(t, "all", callOf("CALL", "8", "43", "0"), "", "", "5:97; 7:0 1=6; 8:53 1=60 2=61; 9:2 1=70; ")
	leaves(t, "one too many", callOf("CALL", "8", "44", "0"), "", "", "5:97; "+untouched)
	leaves(t, "none", callOf("CALL", "8", "0", "0"), "", "", "5:97; "+untouched)
	leaves(t, "all to oneself", "CALLER 7 EQ @again JUMPI "+callOf("CALL", "7", "43", "GAS")+"0 SSTORE STOP again: 7 BALANCE 3 SSTORE", "", "", "5:97; 7:43 0=1 1=6 3=43; 8:10 1=60 2=61; 9:2 1=70; ")
	leaves(t, "one too many to oneself", callOf("CALL", "7", "44", "GAS")+"0 SSTORE", "", "", "5:97; "+untouched)
	leaves(t, "to one that was not", callOf("CALL", "66", "4", "0")+"0 SSTORE", "", "", "5:97; 7:39 0=1 1=6; 8:10 1=60 2=61; 9:2 1=70; 66:4; ")
	leaves(t, "back to the sender", callOf("CALL", "CALLER", "43", "0")+"0 SSTORE", "", "", "5:140; 7:0 0=1 1=6; 8:10 1=60 2=61; 9:2 1=70; ")
	leaves(t, "twice, and then there is none", callOf("CALL", "8", "40", "0")+callOf("CALL", "8", "4", "0")+callOf("CALL", "9", "3", "0")+"100 MUL ADD 100 MUL ADD 0 SSTORE", "", "", "5:97; 7:0 0=10001 1=6; 8:50 1=60 2=61; 9:5 1=70; ")
	// The money is there when the called code runs.
	answers(t, "money in the called frame", "64 0 0 0 13 8 GAS CALL 64 0 RETURN", "8 BALANCE 0 MSTORE 7 BALANCE 32 MSTORE 64 0 RETURN", "", bytes32(23, 30))
	// Money is that of self: by DELEGATECALL 7 pays, though 8's code asks for it.
	leaves(t, "money of self", callOf("DELEGATECALL", "8", "", "GAS"), callOf("CALL", "9", "43", "0"), "", "5:97; 7:0 1=6; 8:10 1=60 2=61; 9:45 1=70; ")
	leaves(t, "DELEGATECALL moves nothing", callOf("CALL", "8", "43", "GAS"), callOf("DELEGATECALL", "9", "", "GAS")+"0 SSTORE", "CALLVALUE 5 SSTORE", "5:97; 7:0 1=6; 8:53 0=1 1=60 2=61 5=43; 9:2 1=70; ")
	// DELEGATECALL asks for no money: self may have less than the value it was given.
	leaves(t, "DELEGATECALL without money", callOf("CALL", "9", "43", "0")+callOf("DELEGATECALL", "8", "", "GAS")+"0 SSTORE", "CALLVALUE 5 SSTORE", "", "5:97; 7:0 0=1 1=6 5=3; 8:10 1=60 2=61; 9:45 1=70; ")
	leaves(t, "STATICCALL without money", callOf("CALL", "9", "43", "0")+callOf("STATICCALL", "8", "", "GAS")+"0 SSTORE", "CALLVALUE ADDRESS", "", "5:97; 7:0 0=1 1=6; 8:10 1=60 2=61; 9:45 1=70; ")
}

// Self, caller and value, down to the third frame.
func TestWhoseNameACallIsIn(t *testing.T) {
	tells := "ADDRESS 0 MSTORE CALLER 32 MSTORE CALLVALUE 64 MSTORE 96 0 RETURN"
	through := func(call string) string { return "96 0 0 0 " + call + " POP 96 0 RETURN" }
	for _, c := range []struct {
		seven, eight string
		want         [3]int
	}{
		{"2 8 GAS CALL", tells, [3]int{8, 7, 2}}, {"0 8 GAS CALL", tells, [3]int{8, 7, 0}}, {"8 GAS DELEGATECALL", tells, [3]int{7, 5, 3}}, {"8 GAS STATICCALL", tells, [3]int{8, 7, 0}},
		{"2 8 GAS CALL", through("1 9 GAS CALL"), [3]int{9, 8, 1}}, {"2 8 GAS CALL", through("9 GAS DELEGATECALL"), [3]int{8, 7, 2}}, {"2 8 GAS CALL", through("9 GAS STATICCALL"), [3]int{9, 8, 0}},
		{"8 GAS DELEGATECALL", through("1 9 GAS CALL"), [3]int{9, 7, 1}}, {"8 GAS DELEGATECALL", through("9 GAS DELEGATECALL"), [3]int{7, 5, 3}}, {"8 GAS DELEGATECALL", through("9 GAS STATICCALL"), [3]int{9, 7, 0}},
		{"8 GAS STATICCALL", through("0 9 GAS CALL"), [3]int{9, 8, 0}}, {"8 GAS STATICCALL", through("9 GAS DELEGATECALL"), [3]int{8, 7, 0}}, {"8 GAS STATICCALL", through("9 GAS STATICCALL"), [3]int{9, 8, 0}},
	} {
		answers(t, "self, caller, value", through(c.seven), c.eight, tells, bytes32(c.want[0], c.want[1], c.want[2]))
	}
	again := "CALLER 7 EQ @again JUMPI 96 0 0 0 4 7 GAS CALL POP 96 0 RETURN again: " + tells
	answers(t, "a call of oneself", again, "", "", bytes32(7, 7, 4))
	// All of a word counts, not its lowest part.
	world := ahead(t, "96 0 0 0 2 "+high192+" GAS CALL 0 SSTORE 96 0 RETURN", "", "")
	world = append(world, api.Account{At: api.Word{0, 0, 0, 1}, Code: assembled(t, tells)})
	r, after := calling(t, world, 100000)
	same(t, "P6: a call of 2^192", r.Output, push32(api.Word{0, 0, 0, 1})[1:]+bytes32(7, 2))
	same(t, "P6: the money of 2^192", after[4].Balance, n(2))
}

// A called frame has its own data, code, stack, memory, and nothing returned.
func TestCalledFrameIsNew(t *testing.T) {
	for eight, want := range map[string]api.Word{
		"CALLDATASIZE": n(2), "0 CALLDATALOAD": {0, 0, 0, 0x0102 << 48}, "1 CALLDATALOAD": {0, 0, 0, 0x02 << 56}, "2 CALLDATALOAD": none,
		"CODESIZE": n(7), "RETURNDATASIZE": none, "MSIZE": none, "0 MLOAD": none, "PC": none,
		"8 0 0 CODECOPY 0 MLOAD 192 SHR": n(0x60085f5f395f5160), "2 0 30 CALLDATACOPY 0 MLOAD": n(0x0102),
	} {
		for _, name := range callNames {
			seven := "0x0102 0 MSTORE 0 0 0 0 9 GAS STATICCALL POP 32 64 2 30 " + rest(name, "8") + " 32 MSTORE 64 32 RETURN"
			answers(t, name+" of "+eight, seven, eight+" 0 MSTORE 32 0 RETURN", "32 32 RETURN", bytes32(1)+push32(want)[1:])
		}
	}
	for _, name := range callNames {
		// 7 has words on its stack, of which 8 may take none, and all are there again.
		answers(t, "the stack", "11 12 "+callOf(name, "8", "0", "GAS")+"0 MSTORE 32 MSTORE 64 MSTORE 96 0 RETURN", "POP", "", bytes32(0, 12, 11))
		answers(t, "the stack", "11 12 "+callOf(name, "8", "0", "GAS")+"0 MSTORE 32 MSTORE 64 MSTORE 96 0 RETURN", "1 2 3", "", bytes32(1, 12, 11))
		// What 8 writes to its memory, and where it jumps, is not seen in 7.
		answers(t, "memory", "5 0 MSTORE "+callOf(name, "8", "0", "GAS")+"MSIZE 32 MSTORE POP 64 0 RETURN", "6 0 MSTORE 7 640 MSTORE @a JUMP ADD a: STOP", "", bytes32(5, 32))
	}
	// Data of a call may be longer than that of a message.
	answers(t, "much data", "32 0 65536 0 0 8 GAS CALL POP 32 0 RETURN", "CALLDATASIZE 0 MSTORE 32 0 RETURN", "", bytes32(65536))
}
