package host_test

import (
	"testing"

	"cinder/api"
)

// changing are the instructions that fail in a frame that may only read.
var changing = []string{"1 0 SSTORE", "0 0 SSTORE", "60 1 SSTORE", "1 0 TSTORE", "0 0 TSTORE", "0 0 LOG0", "0 0 0 LOG1", "0 0 0 0 LOG2", "0 0 0 0 0 LOG3", "0 0 0 0 0 0 LOG4",
	"0 0 0 0 1 9 0 CALL", "0 0 0 0 10 9 0 CALL", "0 0 0 0 11 9 0 CALL", "0 0 0 0 1 8 0 CALL", "0 0 0 0 1 66 0 CALL", "0 0 0 0 " + maxHex + " 9 0 CALL", "0 0 0 0 " + high64 + " 9 0 CALL"}

var reading = []string{"1 SLOAD", "0 TLOAD", "5 BALANCE", "1 0 MSTORE", "1 0 MSTORE8", "0 0 RETURN", "0 0 0 0 0 9 0 CALL", "0 0 0 0 0 66 0 CALL", "0 0 0 0 0 9 GAS CALL", "0 0 0 0 9 GAS DELEGATECALL", "0 0 0 0 9 GAS STATICCALL"}

const says = "0 MSTORE 32 0 RETURN"

func TestReadingOnlyByCalls(t *testing.T) {
	static := "0 0 0 0 8 9000 STATICCALL "
	for _, src := range changing {
		answers(t, src+" where it may be", "0 0 0 0 0 8 GAS CALL "+says, src, "", bytes32(1))
		answers(t, src+" where only reading may be", static+says, src, "", bytes32(0))
		leaves(t, src+" where only reading may be", static+"8 SSTORE 5 9 SSTORE", src, "", "5:97; 7:43 1=6 9=5; 8:10 1=60 2=61; 9:2 1=70; ")
		// All its gas is gone.
		if r, _ := calling(t, ahead(t, static, src, ""), 100000); r.Gas != 100000-118-9000 {
			t.Errorf("P6: %s where only reading may be: %+v", src, r)
		}
	}
	for _, src := range reading {
		answers(t, src+" where only reading may be", static+says, src, "STOP", bytes32(1))
	}
}

// What may only read goes on from frame to frame, by each kind of call, and
// ends with the frame that was called so.
func TestReadingOnlyGoesOn(t *testing.T) {
	static := "32 0 0 0 8 GAS STATICCALL POP 32 0 RETURN"
	for _, name := range callNames {
		for _, src := range changing {
			answers(t, src+" by STATICCALL and "+name, static, callOf(name, "9", "0", "9000")+says, src, bytes32(0))
		}
		for _, src := range reading {
			answers(t, src+" by STATICCALL and "+name, static, callOf(name, "9", "0", "9000")+says, "CALLER 9 EQ @a JUMPI ADDRESS CALLER EQ @a JUMPI "+src+" a: STOP", bytes32(1))
		}
	}
	// Four frames down: 7 to 8 by STATICCALL, then to 9, to 8 again, and to 9.
	down := "CALLDATASIZE 3 EQ @end JUMPI 32 0 CALLDATASIZE 1 ADD 0 0 9 GAS CALL POP 32 0 RETURN end: 1 0 SSTORE 7 0 MSTORE 32 0 RETURN"
	back := "32 0 CALLDATASIZE 1 ADD 0 0 8 20000 CALL 32 MSTORE 0 MLOAD 32 MLOAD ADD 64 MSTORE 32 64 RETURN"
	answers(t, "four frames that may do all", "32 0 1 0 0 8 GAS CALL POP 32 0 RETURN", down, back, bytes32(8))
	answers(t, "four frames that may only read", "32 0 1 0 8 GAS STATICCALL POP 32 0 RETURN", down, back, bytes32(0))
	// By DELEGATECALL a frame of 7's name reads only, and so may not pay from it.
	leaves(t, "a name of one that may do all", "0 0 0 0 8 GAS STATICCALL 0 SSTORE 4 5 SSTORE", "0 0 0 0 9 GAS DELEGATECALL", "1 0 SSTORE", "5:97; 7:43 0=1 1=6 5=4; 8:10 1=60 2=61; 9:2 1=70; ")
	// A frame that has called one which may only read may itself do all.
	leaves(t, "behind a call that reads", "0 0 0 0 8 GAS STATICCALL 0 SSTORE 1 2 TSTORE 2 0 0 LOG1 0 0 0 0 4 9 GAS CALL 3 SSTORE", "1 SLOAD", "8 8 SSTORE 1 0 0 LOG1", "5:97; 7:39 0=1 1=6 3=1; 8:10 1=60 2=61; 9:6 1=70 8=8; 7 2! 9 1! ")
}

// all is a code that changes all that can be changed: money goes to 9, whose
// code changes things too.
const all = "9 1 SSTORE 0 2 SSTORE 9 9 SSTORE 9 1 TSTORE 8 0 0 LOG1 0 0 0 0 7 9 5000 CALL POP 80 0 0 LOG1 "

// remembers is a code for 9: it changes what it may, and counts in a slot of
// the message. With data it tells that slot.
const remembers = "CALLDATASIZE @tell JUMPI 1 1 TLOAD ADD 1 TSTORE 0 1 SSTORE 3 3 SSTORE 9 0 0 LOG1 STOP tell: 1 TLOAD " + says

// What a call that is not Done did, and all that frames did that it called, is
// as it was; what was done ahead of it and is done behind it stays.
func TestCallsThatAreNotDone(t *testing.T) {
	around := func(call string) string {
		return "5 5 SSTORE 5 1 TSTORE 1 0 0 LOG1 " + call + " 6 SSTORE 2 0 0 LOG1 1 TLOAD 7 SSTORE 32 0 1 0 0 9 GAS CALL POP 0 MLOAD 8 SSTORE"
	}
	call := around("0 0 0 0 11 8 30000 CALL")
	leaves(t, "all Done", call, all, remembers, "5:97; 7:32 1=6 5=5 6=1 7=5 8=1; 8:14 1=9 9=9; 9:9 3=3; 7 1! 8 8! 9 9! 8 80! 7 2! ")
	for _, end := range []string{"0 0 REVERT", "32 0 REVERT", "ADD ADD", "0 JUMP", "a: @a JUMP", "65536 MLOAD"} {
		leaves(t, "a call that ends by "+end, call, all+end, remembers, "5:97; 7:43 1=6 5=5 7=5; 8:10 1=60 2=61; 9:2 1=70; 7 1! 7 2! ")
		// Only the innermost is not Done: 8's changes stay.
		leaves(t, "an inner call that ends by "+end, call, all, "CALLDATASIZE @tell JUMPI 1 1 TSTORE 0 1 SSTORE 3 3 SSTORE 9 0 0 LOG1 "+end+" tell: 1 TLOAD "+says, "5:97; 7:32 1=6 5=5 6=1 7=5; 8:21 1=9 9=9; 9:2 1=70; 7 1! 8 8! 8 80! 7 2! ")
	}
	// By DELEGATECALL the changes are those of 7.
	call = around("0 0 0 0 8 30000 DELEGATECALL")
	leaves(t, "all Done by DELEGATECALL", call, all, remembers, "5:97; 7:36 1=9 5=5 6=1 7=9 8=1 9=9; 8:10 1=60 2=61; 9:9 3=3; 7 1! 7 8! 9 9! 7 80! 7 2! ")
	for _, end := range []string{"0 0 REVERT", "ADD ADD", "0 JUMP"} {
		leaves(t, "a DELEGATECALL that ends by "+end, call, all+end, remembers, "5:97; 7:43 1=6 5=5 7=5; 8:10 1=60 2=61; 9:2 1=70; 7 1! 7 2! ")
	}
}

// A message that is not Done changes nothing (P8), though all its calls were.
func TestMessageThatIsNotDone(t *testing.T) {
	for end, want := range map[string]api.Result{
		"5 0 MSTORE 32 0 REVERT": {Status: api.Reverted, Output: bytes32(5)},
		"ADD ADD":                {Status: api.Failed},
		"a: @a JUMP":             {Status: api.Failed},
	} {
		world := ahead(t, "1 0 0 LOG1 0 0 0 0 11 8 30000 CALL 0 SSTORE 0 0 0 0 8 30000 DELEGATECALL 2 SSTORE "+end, all, remembers)
		h := made(t, world...)
		for range 3 {
			r := sent(t, h, api.Message{From: n(5), To: n(7), Value: n(3), Gas: 100000})
			r.Gas = 0
			same(t, "P8: a message that ends by "+end, r, want)
			same(t, "P8: the world behind a message that ends by "+end, h.World(), world)
		}
	}
	// Not even an account stays that only the message's money made.
	world := []api.Account{{At: n(5), Balance: n(9)}, {At: n(7), Code: assembled(t, "0 0 0 0 4 66 0 CALL 0 0 0 0 5 67 0 CALL CALLDATASIZE @a JUMPI ADD ADD ADD a: 0 0 REVERT")}}
	for _, data := range []string{"", "x"} {
		h := made(t, world...)
		if r := sent(t, h, api.Message{From: n(5), To: n(7), Value: n(9), Data: data, Gas: 5000}); r.Status == api.Done {
			t.Errorf("P8: %+v", r)
		}
		same(t, "P8: the world", h.World(), world)
	}
}

// Calls nested three deep, of which each may be Done or not: what stays is what
// was done by frames all of whose callers are Done.
func TestNestedEnds(t *testing.T) {
	ends := map[string]string{"d": "STOP", "r": "0 0 REVERT", "f": "0 JUMP"}
	seven := "0 0 0 0 1 8 50000 CALL 0 SSTORE 7 0 0 LOG1"
	for outer, outerEnd := range ends {
		for inner, innerEnd := range ends {
			eight := "8 8 SSTORE 0 0 0 0 1 9 5000 CALL 0 SSTORE 8 0 0 LOG1 " + outerEnd
			nine := "9 9 SSTORE 9 0 0 LOG1 " + innerEnd
			want := "5:97; 7:43 1=6; 8:10 1=60 2=61; 9:2 1=70; 7 7! "
			switch {
			case outer == "d" && inner == "d":
				want = "5:97; 7:42 0=1 1=6; 8:10 0=1 1=60 2=61 8=8; 9:3 1=70 9=9; 9 9! 8 8! 7 7! "
			case outer == "d":
				want = "5:97; 7:42 0=1 1=6; 8:11 1=60 2=61 8=8; 9:2 1=70; 8 8! 7 7! "
			}
			leaves(t, outer+inner, seven, eight, nine, want)
		}
	}
}

// A call of oneself that is not Done goes back to what was ahead of it, and not
// to what was ahead of the message.
func TestOneselfThatIsNotDone(t *testing.T) {
	seven := "CALLER 7 EQ @again JUMPI 2 1 SSTORE 3 1 TSTORE 0 0 0 0 5 7 9000 CALL 0 SSTORE 1 SLOAD 100 MUL 1 TLOAD ADD 9 SSTORE STOP again: 1 SLOAD 10 ADD 1 SSTORE 1 TLOAD 10 ADD 1 TSTORE 0 2 SSTORE "
	leaves(t, "Done", seven, "", "", "5:97; 7:43 0=1 1=12 9=1213; 8:10 1=60 2=61; 9:2 1=70; ")
	leaves(t, "reverted", seven+"0 0 REVERT", "", "", "5:97; 7:43 1=2 9=203; 8:10 1=60 2=61; 9:2 1=70; ")
	leaves(t, "failed", seven+"ADD", "", "", "5:97; 7:43 1=2 9=203; 8:10 1=60 2=61; 9:2 1=70; ")
}

// Slots of a message belong to an account, in all frames of the message.
func TestSlotsOfAMessageInCalls(t *testing.T) {
	leaves(t, "each has its own", "5 1 TSTORE 0 0 0 0 0 8 GAS CALL 0 0 0 0 0 8 GAS CALL ADD 0 SSTORE 1 TLOAD 9 SSTORE", "1 TLOAD 1 ADD DUP1 1 TSTORE 9 SSTORE", "", "5:97; 7:43 0=2 1=6 9=5; 8:10 1=60 2=61 9=2; 9:2 1=70; ")
	leaves(t, "by DELEGATECALL those of self", "5 1 TSTORE 0 0 0 0 8 GAS DELEGATECALL 0 SSTORE 1 TLOAD 9 SSTORE", "1 TLOAD 1 ADD 1 TSTORE", "", "5:97; 7:43 0=1 1=6 9=6; 8:10 1=60 2=61; 9:2 1=70; ")
	leaves(t, "read by STATICCALL", "32 0 0 0 8 GAS STATICCALL 0 SSTORE 0 MLOAD 9 SSTORE", "1 TLOAD 7 ADD "+says, "", "5:97; 7:43 0=1 1=6 9=7; 8:10 1=60 2=61; 9:2 1=70; ")
	h := made(t, ahead(t, "0 0 0 0 0 8 GAS CALL 0 SSTORE", "1 TLOAD 1 ADD DUP1 1 TSTORE 0 SSTORE", "")...)
	for range 3 {
		sent(t, h, api.Message{From: n(5), To: n(7), Gas: 100000})
		same(t, "P6: the slots of a message that are 0 when it comes", h.World()[2].Slots[0], api.Slot{Value: n(1)})
	}
}

// P9: slots change by an account's own code alone, or by what this calls by
// DELEGATECALL.
func TestSlotsChangeByOwnCode(t *testing.T) {
	store := "ADDRESS 4 SSTORE "
	for what, c := range map[string][4]string{
		"own code":          {store, store, store, "7:43 1=6 4=7; 8:10 1=60 2=61; 9:2 1=70; "},
		"CALL":              {callOf("CALL", "8", "0", "GAS"), store, store, "7:43 1=6; 8:10 1=60 2=61 4=8; 9:2 1=70; "},
		"DELEGATECALL":      {callOf("DELEGATECALL", "8", "", "GAS"), store, store, "7:43 1=6 4=7; 8:10 1=60 2=61; 9:2 1=70; "},
		"STATICCALL":        {callOf("STATICCALL", "8", "", "9000"), store, store, "7:43 1=6; 8:10 1=60 2=61; 9:2 1=70; "},
		"twice CALL":        {callOf("CALL", "8", "0", "GAS"), callOf("CALL", "9", "0", "GAS"), store, "7:43 1=6; 8:10 1=60 2=61; 9:2 1=70 4=9; "},
		"CALL, DELEGATE":    {callOf("CALL", "8", "0", "GAS"), callOf("DELEGATECALL", "9", "", "GAS"), store, "7:43 1=6; 8:10 1=60 2=61 4=8; 9:2 1=70; "},
		"DELEGATE, CALL":    {callOf("DELEGATECALL", "8", "", "GAS"), callOf("CALL", "9", "0", "GAS"), store, "7:43 1=6; 8:10 1=60 2=61; 9:2 1=70 4=9; "},
		"twice DELEGATE":    {callOf("DELEGATECALL", "8", "", "GAS"), callOf("DELEGATECALL", "9", "", "GAS"), store, "7:43 1=6 4=7; 8:10 1=60 2=61; 9:2 1=70; "},
		"of no code":        {callOf("DELEGATECALL", "66", "", "GAS"), store, store, "7:43 1=6; 8:10 1=60 2=61; 9:2 1=70; "},
		"money alone":       {callOf("CALL", "9", "3", "GAS"), store, "", "7:40 1=6; 8:10 1=60 2=61; 9:5 1=70; "},
		"one after another": {store + callOf("CALL", "8", "0", "GAS") + callOf("DELEGATECALL", "9", "", "GAS"), store, "ADDRESS 5 SSTORE", "7:43 1=6 4=7 5=7; 8:10 1=60 2=61 4=8; 9:2 1=70; "},
	} {
		leaves(t, "P9: "+what, c[0], c[1], c[2], "5:97; "+c[3])
	}
}

// P7: money that many calls move, some of them not Done, is never more or less.
func TestSumOfMoney(t *testing.T) {
	around := api.Word{ones - 20, ones, ones, ones}
	world := ahead(t, "0 0 0 0 13 8 50000 CALL 0 0 0 0 20 9 9000 CALL 0 0 0 0 7 7 0 CALL 0 0 0 0 3 66 0 CALL CALLDATASIZE @a JUMPI STOP a: 0 JUMP",
		"0 0 0 0 5 9 5000 CALL 0 0 0 0 8 BALANCE 5 0 CALL 0 0 0 0 1 7 0 CALL", "7 BALANCE 1 AND @a JUMPI STOP a: 0 0 REVERT")
	world = append(world, api.Account{At: n(66), Balance: around})
	h := made(t, world...)
	ends := map[uint8]int{}
	for i := range 60 {
		m := api.Message{From: n([]int{5, 7, 8, 9, 66}[i%5]), To: n([]int{7, 7, 8, 9}[i%4]), Value: n(i % 3), Gas: 20000 + 900*i, Data: times("x", i%7/6)}
		r, e := h.Send(m)
		if e == api.OK {
			ends[r.Status]++
		}
		if got := sum(h.World()); got != sum(world) {
			t.Fatalf("P7: the sum of money is %x behind %+v, was %x", got, m, sum(world))
		}
	}
	if ends[api.Done] < 5 || ends[api.Failed]+ends[api.Reverted] < 5 {
		t.Errorf("messages end %v: this shows little", ends)
	}
}

// P2: logs of all frames, and their topics, are the caller's; of what was taken
// back there is nothing, not even behind the list's end.
func TestLogsOfCallsAreTheCallers(t *testing.T) {
	two := "2 1 0 0 LOG2 "
	world := ahead(t, two+"0 0 0 0 0 8 GAS CALL 0 0 0 0 0 9 5000 CALL "+two+"0 0 0 0 0 9 5000 CALL", two+"6 5 4 3 2 1 LOG4", two+two+two+two+"0 JUMP")
	h := made(t, world...)
	first := sent(t, h, api.Message{From: n(5), To: n(7), Gas: 100000})
	second := sent(t, h, api.Message{From: n(5), To: n(7), Gas: 100000})
	topics := []api.Word{n(1), n(2)}
	same(t, "P6: logs", first.Logs, []api.Log{{At: n(7), Topics: topics}, {At: n(8), Topics: topics}, {At: n(8), Topics: []api.Word{n(3), n(4), n(5), n(6)}, Data: "\x00\x00"}, {At: n(7), Topics: topics}})
	for _, l := range first.Logs[:cap(first.Logs)][len(first.Logs):] {
		same(t, "P2: behind the logs", l, api.Log{})
	}
	kept := told(second)
	for i := range first.Logs {
		for k := range first.Logs[i].Topics {
			first.Logs[i].Topics[k] = top
		}
		first.Logs[i].Topics = append(first.Logs[i].Topics, top)
	}
	if told(second) != kept {
		t.Errorf("P2: the logs of another message are %s, were %s", told(second), kept)
	}
	same(t, "P2: a third message", sent(t, h, api.Message{From: n(5), To: n(7), Gas: 100000}), second)
	failed := made(t, ahead(t, "0 0 0 0 0 8 9000 CALL", two+"ADD", "")...)
	if r := sent(t, failed, api.Message{From: n(5), To: n(7), Gas: 100000}); r.Status != api.Done || len(r.Logs) != 0 {
		t.Errorf("P6: logs of a call that failed: %+v", r)
	}
}
