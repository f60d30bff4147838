package host_test

import (
	"math/rand"
	"strconv"
	"strings"
	"testing"

	"cinder/api"
	"cinder/host"
	"cinder/text"
)

// compare sends messages to a host and to the plain machine, and gives how they
// ended.
func compare(t *testing.T, world []api.Account, messages []api.Message) []uint8 {
	t.Helper()
	h, e := host.New(world)
	if e != api.OK {
		t.Fatalf("P5: New(%+v): %d", world, e)
	}
	plain := plainOf(world)
	var ends []uint8
	for _, m := range messages {
		r, e := h.Send(m)
		var want api.Result
		var wantE api.Errno
		plain, want, wantE = plain.send(m)
		if told(r) != told(want) || e != wantE {
			t.Fatalf("P6: Send(%+v) = %s, %d, want %s, %d\nin %x", m, told(r), e, told(want), wantE, world)
		}
		if got, want := told(h.World()), told(plain.list()); got != want {
			t.Fatalf("P6: World() behind %+v = %s, want %s\nin %x", m, got, want, world)
		}
		ends = append(ends, r.Status)
	}
	return ends
}

var numbers = []string{"0", "1", "2", "3", "5", "7", "9", "31", "32", "33", "64", "100", "255", "256", "500", "1000", "65504", "65535", "65536", high64, high192, signBit, maxHex}

// anyNumber is mostly a small one: with great ones few codes get far.
func anyNumber(random *rand.Rand) string {
	switch random.Intn(12) {
	case 0:
		return numbers[random.Intn(len(numbers))]
	case 1:
		return strconv.Itoa(random.Intn(300))
	}
	return numbers[random.Intn(14)]
}

var plainNames = strings.Fields(`ADD MUL SUB DIV SDIV MOD SMOD ADDMOD MULMOD EXP SIGNEXTEND LT GT SLT SGT EQ ISZERO AND OR XOR NOT BYTE SHL SHR SAR
	ADDRESS BALANCE CALLER CALLVALUE CALLDATALOAD CALLDATASIZE CALLDATACOPY CODESIZE CODECOPY RETURNDATASIZE RETURNDATACOPY POP MLOAD MSTORE MSTORE8
	SLOAD SSTORE PC MSIZE GAS JUMPDEST TLOAD TSTORE MCOPY DUP1 DUP2 DUP5 DUP16 SWAP1 SWAP2 SWAP4 SWAP16 LOG0 LOG1 LOG2 LOG3 LOG4`)

// anyText is one of a program that gets somewhere: most instructions have the
// words that they need right ahead of them.
func anyText(random *rand.Rand) string {
	var src strings.Builder
	labels := strings.Fields("a b c d")
	for i := range 4 + random.Intn(40) {
		if i%8 == 0 && len(labels) > 0 {
			src.WriteString(labels[0] + ": ")
			labels = labels[1:]
		}
		switch random.Intn(16) {
		case 0:
			src.WriteString(anyNumber(random) + " @" + string(rune('a'+random.Intn(2))) + " JUMPI ")
		case 1:
			src.WriteString(anyNumber(random) + " ")
		case 2:
			src.WriteString(plainNames[random.Intn(len(plainNames))] + " ")
		default:
			for range 3 {
				src.WriteString(anyNumber(random) + " ")
			}
			src.WriteString(plainNames[random.Intn(len(plainNames))] + " ")
		}
	}
	for _, l := range labels {
		src.WriteString(l + ": ")
	}
	src.WriteString([]string{"", "", "64 0 RETURN", "MSIZE 0 RETURN", "32 0 REVERT", "MSIZE 0 REVERT", "ADD ADD STOP", anyNumber(random) + " 0 RETURN"}[random.Intn(8)])
	return src.String()
}

func anyCode(random *rand.Rand) string {
	if random.Intn(6) == 0 {
		raw := make([]byte, random.Intn(60))
		for i := range raw {
			raw[i] = byte(random.Intn(256))
			if random.Intn(2) == 0 {
				raw[i] = byte(95 + random.Intn(3))
			}
		}
		return withoutCalls(string(raw))
	}
	for {
		if code, e, _ := text.Assemble(anyText(random)); e == api.OK {
			return code
		}
	}
}

// withoutCalls: the plain machine does not know the calls of other code.
func withoutCalls(code string) string {
	return strings.NewReplacer("\xf1", "\x01", "\xf4", "\x02", "\xfa", "\x03").Replace(code)
}

func anyMessage(random *rand.Rand) api.Message {
	m := api.Message{From: n(random.Intn(5)), To: n(random.Intn(5)), Value: n(random.Intn(30)), Gas: random.Intn(4000)}
	m.Data = times(string([]byte{byte(random.Intn(256))}), random.Intn(80))
	switch random.Intn(8) {
	case 0:
		m.Gas = 100000
	case 1:
		m.Gas = random.Intn(400)
	case 2:
		m.Value = none
	}
	return m
}

func TestAgainstPlainMachine(t *testing.T) {
	random := rand.New(rand.NewSource(6))
	count := map[uint8]int{}
	for range 800 {
		var world []api.Account
		for at := range 4 {
			world = append(world, api.Account{At: n(at), Balance: n(random.Intn(60)), Code: anyCode(random), Slots: slots(random.Intn(4))})
		}
		var messages []api.Message
		for range 6 {
			messages = append(messages, anyMessage(random))
		}
		for _, status := range compare(t, world, messages) {
			count[status]++
		}
	}
	for _, status := range []uint8{api.Done, api.Reverted, api.Failed} {
		if count[status] < 50 {
			t.Errorf("only %d messages end %d: this shows little", count[status], status)
		}
	}
}

// All gas from nothing on: each code meets each place where its gas ends.
func TestEveryGas(t *testing.T) {
	random := rand.New(rand.NewSource(7))
	for range 25 {
		world := []api.Account{{At: n(1), Balance: n(5)}, {At: n(2), Code: anyCode(random), Slots: slots(2)}}
		var messages []api.Message
		for gas := range 600 {
			messages = append(messages, api.Message{From: n(1), To: n(2), Data: "some", Gas: gas})
		}
		compare(t, world, messages)
	}
}

// FuzzSend: P1: at no code, data and gas does Send panic, and P6 holds there.
func FuzzSend(f *testing.F) {
	random := rand.New(rand.NewSource(8))
	for range 40 {
		f.Add(anyCode(random), "data", 1000, uint64(3))
	}
	f.Add("", "", -1, uint64(0))
	f.Add("\x5b\x5f\x56", "", 100000, uint64(100))
	f.Fuzz(func(t *testing.T, code, data string, gas int, value uint64) {
		if len(code) > 1000 {
			code = code[:1000]
		}
		m := api.Message{From: n(5), To: n(7), Value: api.Word{value}, Data: data, Gas: gas}
		compare(t, before(withoutCalls(code)), []api.Message{m, m})
	})
}
