package host_test

import (
	"math/rand"
	"strconv"
	"strings"
	"testing"

	"cinder/api"
	"cinder/host"
	"cinder/text"
	"cinder/word"
)

// compare sends messages to a host and to the plain machine, asks at each for
// what follows too (P7 to P9), and gives how they ended.
func compare(t *testing.T, world []api.Account, messages []api.Message) []uint8 {
	t.Helper()
	h, e := host.New(world)
	if e != api.OK {
		t.Fatalf("P5: New(%+v): %d", world, e)
	}
	plain := plainOf(world)
	var ends []uint8
	for _, m := range messages {
		r, e := h.Send(m)
		var want api.Result
		var wantE api.Errno
		plain, want, wantE = plain.send(m)
		if told(r) != told(want) || e != wantE {
			t.Fatalf("P6: Send(%+v) = %s, %d, want %s, %d\nin %x", m, told(r), e, told(want), wantE, world)
		}
		after := h.World()
		if got, want := told(after), told(plain.list()); got != want {
			t.Fatalf("P6: World() behind %+v = %s, want %s\nin %x", m, got, want, world)
		}
		follows(t, world, after)
		ends = append(ends, r.Status)
	}
	return ends
}

// follows asks for what holds however messages end: the sum of money (P7), and
// the slots of those whose code can't change them (P9).
func follows(t *testing.T, world, after []api.Account) {
	t.Helper()
	if sum(after) != sum(world) {
		t.Fatalf("P7: the sum of money is %x, was %x\nin %x", sum(after), sum(world), world)
	}
	for _, a := range after {
		if !strings.Contains(a.Code, "\x55") && !strings.Contains(a.Code, "\xf4") && told(a.Slots) != told(slotsAt(world, a.At)) {
			t.Fatalf("P9: the slots of %x are %x\nin %x", a.At, a.Slots, world)
		}
	}
}

func sum(world []api.Account) api.Word {
	var all api.Word
	for _, a := range world {
		all, _ = word.Calc(1, all, a.Balance, none)
	}
	return all
}

func slotsAt(world []api.Account, at api.Word) []api.Slot {
	for _, a := range world {
		if a.At == at {
			return a.Slots
		}
	}
	return nil
}

var numbers = []string{"0", "1", "2", "3", "5", "7", "9", "31", "32", "33", "64", "100", "255", "256", "500", "1000", "65504", "65535", "65536", high64, high192, signBit, maxHex}

// anyNumber is mostly a small one: with great ones few codes get far.
func anyNumber(random *rand.Rand) string {
	switch random.Intn(12) {
	case 0:
		return numbers[random.Intn(len(numbers))]
	case 1:
		return strconv.Itoa(random.Intn(300))
	}
	return numbers[random.Intn(14)]
}

var plainNames = strings.Fields(`ADD MUL SUB DIV SDIV MOD SMOD ADDMOD MULMOD EXP SIGNEXTEND LT GT SLT SGT EQ ISZERO AND OR XOR NOT BYTE SHL SHR SAR
	ADDRESS BALANCE CALLER CALLVALUE CALLDATALOAD CALLDATASIZE CALLDATACOPY CODESIZE CODECOPY RETURNDATASIZE RETURNDATACOPY POP MLOAD MSTORE MSTORE8
	SLOAD SSTORE PC MSIZE GAS JUMPDEST TLOAD TSTORE MCOPY DUP1 DUP2 DUP5 DUP16 SWAP1 SWAP2 SWAP4 SWAP16 LOG0 LOG1 LOG2 LOG3 LOG4`)

// anyText is one of a program that gets somewhere: most instructions have the
// words that they need right ahead of them.
func anyText(random *rand.Rand) string {
	var src strings.Builder
	labels := strings.Fields("a b c d")
	for i := range 4 + random.Intn(40) {
		if i%8 == 0 && len(labels) > 0 {
			src.WriteString(labels[0] + ": ")
			labels = labels[1:]
		}
		switch random.Intn(16) {
		case 3, 4:
			src.WriteString(anyCall(random))
		case 0:
			src.WriteString(anyNumber(random) + " @" + string(rune('a'+random.Intn(2))) + " JUMPI ")
		case 1:
			src.WriteString(anyNumber(random) + " ")
		case 2:
			src.WriteString(plainNames[random.Intn(len(plainNames))] + " ")
		default:
			for range 3 {
				src.WriteString(anyNumber(random) + " ")
			}
			src.WriteString(plainNames[random.Intn(len(plainNames))] + " ")
		}
	}
	for _, l := range labels {
		src.WriteString(l + ": ")
	}
	src.WriteString([]string{"", "", "64 0 RETURN", "MSIZE 0 RETURN", "32 0 REVERT", "MSIZE 0 REVERT", "ADD ADD STOP", anyNumber(random) + " 0 RETURN"}[random.Intn(8)])
	return src.String()
}

// anyCall is mostly of an account that there is, with money that it has.
func anyCall(random *rand.Rand) string {
	var src strings.Builder
	for range 4 {
		src.WriteString(numbers[random.Intn(11)] + " ")
	}
	name := []string{"CALL ", "CALL ", "DELEGATECALL ", "STATICCALL "}[random.Intn(4)]
	if name == "CALL " {
		src.WriteString([]string{"0 ", "0 ", "1 ", "7 ", "20 ", "CALLVALUE ", "ADDRESS BALANCE ", anyNumber(random) + " "}[random.Intn(8)])
	}
	src.WriteString([]string{"0 ", "1 ", "2 ", "3 ", "4 ", "ADDRESS ", "CALLER ", anyNumber(random) + " "}[random.Intn(8)])
	src.WriteString([]string{"GAS ", "GAS ", "GAS ", "1000 ", "3000 ", "300 ", anyNumber(random) + " "}[random.Intn(7)])
	src.WriteString(name)
	src.WriteString([]string{"", "", "POP ", "9 SSTORE ", "32 MSTORE ", "RETURNDATASIZE 0 0 RETURNDATACOPY ", "RETURNDATASIZE 8 TSTORE ", "GAS 7 SSTORE ", "@a JUMPI "}[random.Intn(9)])
	return src.String()
}

var gentle = []string{"1 K SSTORE", "GAS K SSTORE", "0 K SSTORE", "N K SSTORE", "N K TSTORE", "K SLOAD N ADD K SSTORE", "K TLOAD N ADD K TSTORE", "K TLOAD M MSTORE", "K SLOAD M MSTORE",
	"CALLER M MSTORE", "ADDRESS BALANCE M MSTORE", "CALLVALUE M MSTORE8", "0 0 LOG0", "K N M LOG1", "GAS CALLER N M LOG2", "CALLDATASIZE 0 M CALLDATACOPY", "K CALLDATALOAD M MSTORE",
	"RETURNDATASIZE 0 M RETURNDATACOPY", "RETURNDATASIZE K SSTORE", "MSIZE M MSTORE", "GAS M MSTORE"}

// gentleText is one of a program that seldom fails by itself, so that calls of
// it and in it end in all ways.
func gentleText(random *rand.Rand) string {
	var src strings.Builder
	for range random.Intn(8) {
		if random.Intn(2) == 0 {
			src.WriteString(anyCall(random))
			continue
		}
		line := gentle[random.Intn(len(gentle))]
		for _, letter := range []string{"K", "N", "M"} {
			number := strconv.Itoa(random.Intn(4) * random.Intn(17))
			line = strings.ReplaceAll(" "+line+" ", " "+letter+" ", " "+number+" ")
		}
		src.WriteString(line)
	}
	return src.String() + []string{" STOP", "", " 40 0 RETURN", " 64 0 RETURN", " MSIZE 0 RETURN", " 9 0 REVERT", " 64 0 REVERT", " 0 JUMP"}[random.Intn(8)] + " a:"
}

func anyCode(random *rand.Rand) string {
	if random.Intn(2) == 0 {
		if code, e, _ := text.Assemble(gentleText(random)); e == api.OK {
			return code
		}
	}
	if random.Intn(6) == 0 {
		raw := make([]byte, random.Intn(60))
		for i := range raw {
			raw[i] = byte(random.Intn(256))
			if random.Intn(2) == 0 {
				raw[i] = byte(95 + random.Intn(3))
			}
		}
		return string(raw)
	}
	for {
		if code, e, _ := text.Assemble(anyText(random)); e == api.OK {
			return code
		}
	}
}

func anyMessage(random *rand.Rand) api.Message {
	m := api.Message{From: n(random.Intn(5)), To: n(random.Intn(5)), Value: n(random.Intn(30)), Gas: random.Intn(4000)}
	m.Data = times(string([]byte{byte(random.Intn(256))}), random.Intn(80))
	switch random.Intn(8) {
	case 0, 3, 4:
		m.Gas = 100000
	case 1:
		m.Gas = random.Intn(400)
	case 2:
		m.Value = none
	}
	return m
}

func TestAgainstPlainMachine(t *testing.T) {
	random := rand.New(rand.NewSource(6))
	count := map[uint8]int{}
	for range 1500 {
		var world []api.Account
		for at := range 4 {
			world = append(world, api.Account{At: n(at), Balance: n(random.Intn(60)), Code: anyCode(random), Slots: slots(random.Intn(4))})
		}
		var messages []api.Message
		for range 6 {
			messages = append(messages, anyMessage(random))
		}
		for _, status := range compare(t, world, messages) {
			count[status]++
		}
	}
	for _, status := range []uint8{api.Done, api.Reverted, api.Failed} {
		if count[status] < 50 {
			t.Errorf("only %d messages end %d: this shows little", count[status], status)
		}
	}
}

// All gas from nothing on: each code meets each place where its gas ends.
func TestEveryGas(t *testing.T) {
	random := rand.New(rand.NewSource(7))
	for range 25 {
		world := []api.Account{{At: n(1), Balance: n(5)}, {At: n(2), Code: anyCode(random), Slots: slots(2)}, {At: n(3), Balance: n(8), Code: anyCode(random)}}
		var messages []api.Message
		for gas := range 1500 {
			messages = append(messages, api.Message{From: n(1), To: n(2), Data: "some", Gas: gas})
		}
		compare(t, world, messages)
	}
}

// P8: a call that reads only changes nothing, whatever it calls.
func TestReadingChangesNothing(t *testing.T) {
	random := rand.New(rand.NewSource(9))
	ends := map[string]int{}
	for range 1500 {
		world := []api.Account{{At: n(0), Balance: n(9), Code: anyCode(random), Slots: slots(3)}, {At: n(1), Balance: n(30), Code: anyCode(random)}, {At: n(2), Code: anyCode(random), Slots: slots(1)},
			{At: n(7), Code: assembled(t, "64 0 0 0 "+strconv.Itoa(random.Intn(3))+" GAS STATICCALL 0 MSTORE 32 0 RETURN")}}
		h := made(t, world...)
		r := sent(t, h, api.Message{From: n(5), To: n(7), Gas: 100000})
		if r.Status != api.Done || len(r.Logs) != 0 {
			t.Fatalf("P8: a call that reads only: %+v\nin %x", r, world)
		}
		if got := h.World(); told(got) != told(made(t, world...).World()) {
			t.Fatalf("P8: a call that reads only makes %x\nof %x", got, world)
		}
		ends[r.Output]++
	}
	if len(ends) != 2 || ends[times("\x00", 32)] < 100 || ends[times("\x00", 31)+"\x01"] < 100 {
		t.Errorf("calls end %x: this shows little", ends)
	}
}

// assembledCall is a code that calls itself.
func assembledCall(name string) string {
	code, _, _ := text.Assemble("1 0 SLOAD ADD 0 SSTORE 32 0 32 0 1 ADDRESS GAS " + name + " GAS 1 TSTORE 0 0 LOG0 MSIZE 0 REVERT")
	return code
}

// FuzzSend: P1: at no code, data and gas does Send panic, and P6 holds there.
func FuzzSend(f *testing.F) {
	random := rand.New(rand.NewSource(8))
	for range 40 {
		f.Add(anyCode(random), "data", 1000, uint64(3))
	}
	f.Add(assembledCall("CALL"), "", 100000, uint64(1))
	f.Add(assembledCall("DELEGATECALL"), "", 5000, uint64(1))
	f.Add(assembledCall("STATICCALL"), "", 5000, uint64(1))
	f.Add("", "", -1, uint64(0))
	f.Add("\x5b\x5f\x56", "", 100000, uint64(100))
	f.Fuzz(func(t *testing.T, code, data string, gas int, value uint64) {
		if len(code) > 1000 {
			code = code[:1000]
		}
		m := api.Message{From: n(5), To: n(7), Value: api.Word{value}, Data: data, Gas: gas}
		compare(t, before(code), []api.Message{m, m})
	})
}
