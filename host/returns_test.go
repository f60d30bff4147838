package host_test

import (
	"strconv"
	"testing"

	"cinder/api"
)

// What was returned, by how the called frame ended: its length, and all of it.
func TestReturnedByACall(t *testing.T) {
	for eight, want := range map[string]string{
		"": "", "STOP": "", "0 0 RETURN": "", "0x010203 0 MSTORE 3 29 RETURN": "\x01\x02\x03", "40 0 RETURN": times("\x00", 40), "7 0 MSTORE 33 0 RETURN": bytes32(7) + "\x00",
		"0 0 REVERT": "", "0x010203 0 MSTORE 3 29 REVERT": "\x01\x02\x03", "9 0 REVERT": times("\x00", 9),
		"ADD": "", "0x010203 0 MSTORE 0 JUMP": "", "1 0 MSTORE 32 0 0": "", "65537 0 RETURN": "",
		// What 8 was returned by another is not given out by itself.
		"0 0 0 0 9 GAS STATICCALL": "", "0 0 0 0 9 GAS STATICCALL 0 0 REVERT": "", "0 0 0 0 9 GAS STATICCALL POP 5 0 MSTORE 1 31 RETURN": "\x05", "2 1 0 0 9 GAS STATICCALL RETURNDATASIZE 0 RETURN": "\x00\x0b\x0c\x00",
	} {
		for _, name := range callNames {
			for _, first := range []string{"", "0 0 0 0 9 GAS STATICCALL POP "} {
				seven := first + callOf(name, "8", "0", "40000") + "POP RETURNDATASIZE 0 MSTORE RETURNDATASIZE 0 32 RETURNDATACOPY 32 RETURNDATASIZE ADD 0 RETURN"
				answers(t, name+" of "+eight, seven, eight, "0x0b0c0d00 0 MSTORE 4 28 RETURN", bytes32(len(want))+want)
			}
		}
	}
}

// RETURNDATACOPY of what is not all there makes the frame fail.
func TestNotAllReturned(t *testing.T) {
	for _, eight := range []string{"0x010203 0 MSTORE 3 29 RETURN", "0x010203 0 MSTORE 3 29 REVERT"} {
		for words, ok := range map[string]bool{
			"3 0 0": true, "0 3 0": true, "1 2 0": true, "0 4 0": true, "0 " + maxHex + " 0": true, "4 0 0": false, "3 1 0": false, "1 3 0": false, "1 " + high64 + " 0": false, "2 " + maxHex + " 0": false, maxHex + " 1 0": false, high64 + " 0 0": false,
		} {
			for _, name := range callNames {
				r, _ := calling(t, ahead(t, callOf(name, "8", "0", "GAS")+words+" RETURNDATACOPY", eight, ""), 100000)
				if (r.Status == api.Done) != ok {
					t.Errorf("P6: %s RETURNDATACOPY of three bytes: %+v", words, r)
				}
			}
		}
	}
}

// Nothing is returned by a call that is not made, though one ahead of it
// returned something.
func TestReturnedByACallThatIsNotMade(t *testing.T) {
	first := "0 0 0 0 0 8 GAS CALL POP RETURNDATASIZE 0 MSTORE "
	second := "RETURNDATASIZE 32 MSTORE RETURNDATASIZE 0 64 RETURNDATACOPY 96 0 RETURN"
	answers(t, "too much money", first+callOf("CALL", "8", "44", "GAS")+"64 MSTORE "+second, "9 0 RETURN", "", bytes32(9, 0, 0))
	answers(t, "no money too much", first+callOf("CALL", "8", "43", "GAS")+"64 MSTORE "+second, "9 0 RETURN", "", bytes32(9, 9)+times("\x00", 31)+"\x01")
	// In the depth of 16 there is nothing that could have been returned ahead:
	// what stays is that of a call in the depth of 15.
	for depth, want := range map[int]string{15: bytes32(1, 9), 16: bytes32(0, 0)} {
		for _, name := range callNames {
			seven := atDepth(depth, callOf(name, "9", "0", "GAS")+"0 MSTORE RETURNDATASIZE 32 MSTORE")
			answers(t, name+" in the depth "+strconv.Itoa(depth), seven, "", "9 0 RETURN", want+times("\x00", 32))
		}
	}
	answers(t, "a failing call", first+callOf("CALL", "9", "0", "500")+"64 MSTORE "+second, "9 0 RETURN", "ADD", bytes32(9, 0, 0))
}

// Of the output as much is written as there is room for; where it is shorter,
// the rest of the room is as it was.
func TestRoomForTheOutput(t *testing.T) {
	filled := maxHex + " 0 MSTORE " + maxHex + " 32 MSTORE "
	f := func(count int) string { return times("\xff", count) }
	for _, end := range []string{"RETURN", "REVERT"} {
		eight := "0x010203 0 MSTORE 3 29 " + end
		for room, want := range map[string]string{
			"0 0": f(64), "0 5": f(64), "0 " + maxHex: f(64), "1 0": "\x01" + f(63), "2 0": "\x01\x02" + f(62), "3 0": "\x01\x02\x03" + f(61), "4 0": "\x01\x02\x03" + f(61), "64 0": "\x01\x02\x03" + f(61),
			"2 31": f(31) + "\x01\x02" + f(31), "9 60": f(60) + "\x01\x02\x03" + f(1), "3 61": f(61) + "\x01\x02\x03", "4 61": f(61) + "\x01\x02\x03", "4 62": f(62) + "\x01\x02", "9 64": f(64), "65536 0": "\x01\x02\x03" + f(61), "65536 1": "",
		} {
			for _, name := range callNames {
				seven := filled + room + " 0 0 " + rest(name, "8") + " POP 64 0 RETURN"
				if want == "" {
					r, _ := calling(t, ahead(t, seven, eight, ""), 100000)
					same(t, "P6: "+seven, r, api.Result{Status: api.Failed})
					continue
				}
				answers(t, name+" with the room "+room, seven, eight, "", want)
			}
		}
	}
	for what, c := range map[string][2]string{
		"that fails":      {"64 0 0 0 0 8 500 CALL", "0x010203 0 MSTORE 3 29 0 JUMP"},
		"of no output":    {"64 0 0 0 0 8 500 CALL", "0x010203 0 MSTORE 0 29 RETURN"},
		"that stops":      {"64 0 0 0 0 8 500 CALL", "0x010203 0 MSTORE"},
		"without its gas": {"64 0 0 0 0 8 3 CALL", "0x010203 0 MSTORE 3 29 RETURN"},
		"of no code":      {"64 0 0 0 0 66 500 CALL", ""},
		"that isn't made": {"64 0 0 0 44 8 500 CALL", "0x010203 0 MSTORE 3 29 RETURN"},
	} {
		answers(t, "the room of a call "+what, filled+c[0]+" POP 64 0 RETURN", c[1], "", f(64))
	}
	// Memory that is new has noughts behind the output.
	answers(t, "new memory", "64 0 0 0 0 8 GAS CALL POP MSIZE 0 RETURN", maxHex+" 0 MSTORE 3 0 RETURN", "", "\xff\xff\xff"+times("\x00", 61))
	// Much output, little room: all is returned.
	answers(t, "much output", "1 0 0 0 0 8 GAS CALL POP RETURNDATASIZE 32 MSTORE 1 65535 64 RETURNDATACOPY 65 0 RETURN", "3 0 MSTORE8 4 65535 MSTORE8 65536 0 RETURN", "", "\x03"+times("\x00", 31)+bytes32(65536)+"\x04")
}

// The data are those ahead of the call, though the room lies over them.
func TestRoomOverTheData(t *testing.T) {
	add := "0 CALLDATALOAD 1 ADD 0 MSTORE 32 0 RETURN"
	for _, name := range callNames {
		answers(t, name, "5 0 MSTORE 32 0 32 0 "+rest(name, "8")+" POP 32 0 RETURN", add, "", bytes32(6))
		answers(t, name, "5 0 MSTORE 32 32 32 0 "+rest(name, "8")+" POP 64 0 RETURN", add, "", bytes32(5, 6))
		answers(t, name, "5 32 MSTORE 32 0 32 32 "+rest(name, "8")+" POP 64 0 RETURN", add, "", bytes32(6, 5))
		answers(t, name+" of data behind the memory", "7 0 MSTORE 32 0 32 640 "+rest(name, "8")+" POP 32 0 RETURN", add, "", bytes32(1))
		answers(t, name+" with a room behind the memory", "7 0 MSTORE 32 640 32 0 "+rest(name, "8")+" POP 640 MLOAD 0 MSTORE 32 0 RETURN", add, "", bytes32(8))
	}
}
