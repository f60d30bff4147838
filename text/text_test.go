package text_test

import (
	"encoding/hex"
	"strconv"
	"strings"
	"sync"
	"testing"

	"cinder/api"
	"cinder/text"
)

const (
	maxDecimal  = "115792089237316195423570985008687907853269984665640564039457584007913129639935"
	overDecimal = "115792089237316195423570985008687907853269984665640564039457584007913129639936"
)

var (
	ff32     = strings.Repeat("ff", 32)
	maxHex   = "0x" + strings.Repeat("f", 64)
	overHex  = "0x1" + strings.Repeat("0", 64)
	tenWide  = strings.Repeat("𝔵", 10) // four bytes each
	longName = "abcdefghij"
)

type good struct{ name, src, code string }

func checkGood(t *testing.T, rows []good) {
	t.Helper()
	for _, r := range rows {
		code, e, at := text.Assemble(r.src)
		if hex.EncodeToString([]byte(code)) != r.code || e != api.OK || at != 0 {
			t.Errorf("P4: %s: Assemble(%.80q) = %x, %d, %d, want %s, 0, 0", r.name, r.src, code, e, at, r.code)
		}
	}
}

type bad struct {
	name, src string
	e         api.Errno
	at        int
}

func checkBad(t *testing.T, rows []bad) {
	t.Helper()
	for _, r := range rows {
		code, e, at := text.Assemble(r.src)
		if code != "" || e != r.e || at != r.at {
			t.Errorf("P4: %s: Assemble(%.80q) = %x, %d, %d, want nothing, %d, %d", r.name, r.src, code, e, at, r.e, r.at)
		}
	}
}

func TestExamples(t *testing.T) {
	checkGood(t, []good{
		{"sum", "1 0x0100 ADD ; sum", "600161010001"},
		{"label", "söd: @söd JUMP", "5b61000056"},
	})
	checkBad(t, []bad{
		{"small letters", "ADD add", api.ErrText, 4},
		{"label twice", "ä: ä:", api.ErrName, 3},
		{"no label", "@x", api.ErrName, 0},
	})
}

func TestParting(t *testing.T) {
	checkGood(t, []good{
		{"nothing", "", ""},
		{"blanks", " \t\n \n\n\t", ""},
		{"tab", "ADD\tMUL", "0102"},
		{"line", "ADD\nMUL", "0102"},
		{"many", "\n\n  ADD \t \n\t MUL\t", "0102"},
		{"a remark alone", ";", ""},
		{"a remark's end", "; ADD\nMUL", "02"},
		{"a remark at an item", "ADD;MUL\nSUB", "0103"},
		{"a remark in a remark", "ADD ; ; MUL ; SUB\n", "01"},
		{"a remark at a label", "a:;b:\n@a", "5b610000"},
		{"wrong items in a remark", "ADD ; zz :: @q a: a: " + overDecimal + "\nMUL", "0102"},
		{"a remark of other runes", "ADD ;日本 söd\nMUL", "0102"},
		{"a label in a remark is none", "; a:\na:", "5b"},
	})
	checkBad(t, []bad{
		{"return is no blank", "ADD\r\nMUL", api.ErrText, 0},
		{"a line of return", "ADD\n\r", api.ErrText, 4},
		{"vertical tab", "ADD\vMUL", api.ErrText, 0},
		{"form feed", "ADD \f", api.ErrText, 4},
		{"nought", "ADD \x00", api.ErrText, 4},
		{"wide blank", "ADD\u00a0MUL", api.ErrText, 0},
		{"line separator", "ADD\u2028MUL", api.ErrText, 0},
		{"a mark of order", "\ufeffADD", api.ErrText, 0},
		{"comma", "ADD,MUL", api.ErrText, 0},
		{"remark by hash", "# ADD", api.ErrText, 0},
		{"asked for from a remark", "@a ; a:", api.ErrName, 0},
	})
}

func TestNumbers(t *testing.T) {
	checkGood(t, []good{
		{"nought", "0", "5f"},
		{"noughts", "000", "5f"},
		{"hex nought", "0x0", "5f"},
		{"hex noughts", "0x0000", "5f"},
		{"one", "1", "6001"},
		{"leading noughts", "007", "6007"},
		{"a byte", "255 0xff", "60ff60ff"},
		{"two bytes", "256 0x100 65535", "61010061010061ffff"},
		{"three bytes", "65536", "62010000"},
		{"a nought in the midst", "0x100000000000001", "670100000000000001"},
		{"64 bits", "18446744073709551615 18446744073709551616", "67ffffffffffffffff" + "68010000000000000000"},
		{"all digits", "0x0123456789abcdef 1234567890", "670123456789abcdef" + "63499602d2"},
		{"31 bytes", "0x" + strings.Repeat("f", 62), "7e" + strings.Repeat("ff", 31)},
		{"the greatest", maxDecimal, "7f" + ff32},
		{"the greatest in hex", maxHex, "7f" + ff32},
		{"the greatest behind noughts", strings.Repeat("0", 900) + maxDecimal, "7f" + ff32},
		{"one in long hex", "0x" + strings.Repeat("0", 1990) + "1", "6001"},
	})
	checkBad(t, []bad{
		{"one above", overDecimal, api.ErrBig, 0},
		{"one above in hex", "1 " + overHex, api.ErrBig, 2},
		{"more digits", "ADD\n" + maxDecimal + "0", api.ErrBig, 4},
		{"all digits 9", strings.Repeat("9", 2000), api.ErrBig, 0},
		{"wraps to 0", "0x1" + strings.Repeat("0", 128), api.ErrBig, 0},
		{"no digit", "0x", api.ErrText, 0},
		{"great letters", "0xAB", api.ErrText, 0},
		{"great X", "0X1", api.ErrText, 0},
		{"beyond f", "0xg", api.ErrText, 0},
		{"hex without 0x", "1f", api.ErrText, 0},
		{"ahead of 0", "0x/", api.ErrText, 0},
		{"behind 9", "1:", api.ErrText, 0},
		{"ahead of a", "0x`", api.ErrText, 0},
		{"sign", "+1", api.ErrText, 0},
		{"minus", "1 -1", api.ErrText, 2},
		{"point", "1.0", api.ErrText, 0},
		{"underscore", "1_000", api.ErrText, 0},
		{"other digits", "1 ٣", api.ErrText, 2},
		{"other digits in a number", "1٣", api.ErrText, 0},
		{"full width digits", "１", api.ErrText, 0},
		{"0x twice", "0x0x1", api.ErrText, 0},
		{"too great, and none", overDecimal + "z", api.ErrText, 0},
		{"too great, and no label", overDecimal + ":", api.ErrText, 0},
	})
}

// Every instruction but PUSH, by its number.
func instructions() map[string]int {
	all := map[string]int{}
	for first, names := range map[int]string{
		0:   "STOP ADD MUL SUB DIV SDIV MOD SMOD ADDMOD MULMOD EXP SIGNEXTEND",
		16:  "LT GT SLT SGT EQ ISZERO AND OR XOR NOT BYTE SHL SHR SAR",
		48:  "ADDRESS BALANCE",
		51:  "CALLER CALLVALUE CALLDATALOAD CALLDATASIZE CALLDATACOPY CODESIZE CODECOPY",
		61:  "RETURNDATASIZE RETURNDATACOPY",
		80:  "POP MLOAD MSTORE MSTORE8 SLOAD SSTORE JUMP JUMPI PC MSIZE GAS JUMPDEST TLOAD TSTORE MCOPY",
		128: "DUP1 DUP2 DUP3 DUP4 DUP5 DUP6 DUP7 DUP8 DUP9 DUP10 DUP11 DUP12 DUP13 DUP14 DUP15 DUP16",
		144: "SWAP1 SWAP2 SWAP3 SWAP4 SWAP5 SWAP6 SWAP7 SWAP8 SWAP9 SWAP10 SWAP11 SWAP12 SWAP13 SWAP14 SWAP15 SWAP16",
		160: "LOG0 LOG1 LOG2 LOG3 LOG4",
		241: "CALL", 243: "RETURN DELEGATECALL", 250: "STATICCALL", 253: "REVERT",
	} {
		for i, name := range strings.Fields(names) {
			all[name] = first + i
		}
	}
	return all
}

func TestInstructions(t *testing.T) {
	all := instructions()
	if len(all) != 94 {
		t.Fatalf("%d instructions", len(all))
	}
	for name, number := range all {
		checkGood(t, []good{{"instruction", "ADD " + name, "01" + hex.EncodeToString([]byte{byte(number)})}})
		checkBad(t, []bad{
			{"in small letters", "ADD " + strings.ToLower(name), api.ErrText, 4},
			{"with more behind", "ADD " + name + "X", api.ErrText, 4},
			{"with more ahead", "ADD Q" + name, api.ErrText, 4},
			{"as a label", "ADD " + name + ":", api.ErrText, 4},
			{"asked for", "ADD @" + name, api.ErrText, 4},
		})
	}
	for n := range 33 {
		checkBad(t, []bad{{"push", "PUSH" + strconv.Itoa(n), api.ErrText, 0}})
	}
	checkBad(t, []bad{
		{"push alone", "PUSH", api.ErrText, 0},
		{"dup alone", "DUP", api.ErrText, 0},
		{"dup 0", "DUP0", api.ErrText, 0},
		{"dup 17", "DUP17", api.ErrText, 0},
		{"dup 01", "DUP01", api.ErrText, 0},
		{"swap alone", "SWAP", api.ErrText, 0},
		{"swap 0", "SWAP0", api.ErrText, 0},
		{"swap 17", "SWAP17", api.ErrText, 0},
		{"log alone", "LOG", api.ErrText, 0},
		{"log 5", "LOG5", api.ErrText, 0},
		{"a number apart", "DUP 1", api.ErrText, 0},
		{"one there is not", "KECCAK", api.ErrText, 0},
		{"an origin", "ORIGIN", api.ErrText, 0},
		{"an end of another machine", "SELFDESTRUCT", api.ErrText, 0},
		{"half great", "Add", api.ErrText, 0},
	})
}

func TestLabels(t *testing.T) {
	checkGood(t, []good{
		{"alone", "a:", "5b"},
		{"behind", "STOP a: ADD @a JUMP", "005b0161000156"},
		{"ahead", "@b JUMP STOP b: 0", "61000556005b5f"},
		{"both", "a: @b @a b: @a", "5b" + "610007" + "610000" + "5b" + "610000"},
		{"asked for often", "@a @a a:", "6100066100065b"},
		{"behind numbers", "0x010203 0 a: @a", "620102035f5b610005"},
		{"a place in two bytes", "@a " + strings.Repeat(maxHex+" ", 8) + "a:", "61010b" + strings.Repeat("7f"+ff32, 8) + "5b"},
		{"the longest", longName + ": @" + longName, "5b610000"},
		{"the longest of wide runes", tenWide + ": @" + tenWide, "5b610000"},
		{"other scripts", "日本: ñ: שלום: 🙂: @🙂 @שלום", "5b5b5b5b610003610002"},
		{"the first rune above 127", "\u0080: @\u0080", "5b610000"},
		{"the last rune", "\U0010ffff: @\U0010ffff", "5b610000"},
		{"the rune of what is none", "\ufffd: @\ufffd", "5b610000"},
		{"wide blanks are runes", "\u00a0: @\u00a0", "5b610000"},
		{"a mark of its own", "e\u0301: é: @é", "5b5b610001"},
		{"like an instruction", "add: ADD @add", "5b01610000"},
		{"like hex", "abc: @abc", "5b610000"},
		{"a and z", "a: z: @z", "5b5b610001"},
	})
	checkBad(t, []bad{
		{"no name", ":", api.ErrText, 0},
		{"no name to ask for", "ADD @", api.ErrText, 4},
		{"eleven runes", longName + "k:", api.ErrText, 0},
		{"eleven wide runes", "ADD " + tenWide + "𝔵:", api.ErrText, 4},
		{"eleven runes asked for", "@" + longName + "k", api.ErrText, 0},
		{"two colons", "a::", api.ErrText, 0},
		{"two labels in one", "a:b:", api.ErrText, 0},
		{"more behind the colon", "a:b", api.ErrText, 0},
		{"a colon apart", "a :", api.ErrText, 0},
		{"asked for with a colon", "a: @a:", api.ErrText, 3},
		{"two at", "a: @@a", api.ErrText, 3},
		{"at apart", "a: @ a", api.ErrText, 3},
		{"at behind", "a: a@", api.ErrText, 3},
		{"a name alone", "a: a", api.ErrText, 3},
		{"a name of other runes alone", "ää: ää", api.ErrText, 4},
		{"great letters", "A:", api.ErrText, 0},
		{"a digit", "a1:", api.ErrText, 0},
		{"an underscore", "a_b:", api.ErrText, 0},
		{"ahead of a", "`:", api.ErrText, 0},
		{"behind z", "{:", api.ErrText, 0},
		{"the rune 127", "\x7f:", api.ErrText, 0},
		{"a great letter asked for", "@A", api.ErrText, 0},
		{"twice", "a: b: a: b:", api.ErrName, 6},
		{"twice, with code between", "日: ADD 1 日:", api.ErrName, 9},
		{"twice, and asked for", "@a a: a:", api.ErrName, 6},
		{"three times", "a: ADD a: a:", api.ErrName, 7},
		{"not there", "1 @ä 2", api.ErrName, 2},
		{"another is there", "ab: @a", api.ErrName, 4},
		{"by another way of writing it", "e\u0301: @é", api.ErrName, 4},
	})
}

func TestTheFirstFault(t *testing.T) {
	checkBad(t, []bad{
		{"none, then too great", "zz " + overHex, api.ErrText, 0},
		{"too great, then none", overHex + " zz", api.ErrBig, 0},
		{"not there, then none", "@q zz", api.ErrName, 0},
		{"none, then not there", "zz @q", api.ErrText, 0},
		{"twice, then not there", "a: a: @q", api.ErrName, 3},
		{"not there, then twice", "@q a: a:", api.ErrName, 0},
		{"there behind a fault", "@q zz q:", api.ErrText, 3},
		{"there behind a number", "@q " + overHex + " q:", api.ErrBig, 3},
		{"no label behind a fault", "@q zz q::", api.ErrName, 0},
		{"twice behind a fault", "zz a: a:", api.ErrText, 0},
		{"a remark ahead", "; ä\nzz", api.ErrText, 4},
		{"runes ahead", "日本: 1 zz", api.ErrText, 6},
		{"lines ahead", "ADD\n\n\tzz", api.ErrText, 6},
		{"not UTF-8, behind a fault", "zz @q \xff", api.ErrText, 6},
		{"not UTF-8, in a remark", "ä ; ö\xffü", api.ErrText, 5},
		{"not UTF-8, behind long code", strings.Repeat("1 ", 501) + "\xff", api.ErrText, 1002},
		{"too long, and not UTF-8", "ä\xff" + strings.Repeat(" ", 2000), api.ErrText, 0},
		{"too long, and a fault", "@q" + strings.Repeat(" ", 1999), api.ErrText, 0},
	})
}

func TestBytesOfNoRune(t *testing.T) {
	for _, b := range []string{
		"\xff", "\x80", "\xbf", "\xc3", "\xc0\x80", "\xc1\xbf", "\xe0\x80\x80", "\xe6\x97", "\xe6",
		"\xed\xa0\x80", "\xed\xbf\xbf", "\xf0\x80\x80\x80", "\xf0\x9f\x99", "\xf4\x90\x80\x80", "\xf5\x80\x80\x80", "\xfe",
	} {
		checkBad(t, []bad{
			{"alone", b, api.ErrText, 0},
			{"ahead", b + " ADD", api.ErrText, 0},
			{"behind runes", "日本: ;" + b, api.ErrText, 5},
			{"behind the rune of what is none", "\ufffd: " + b, api.ErrText, 3},
			{"twice", "ADD " + b + b, api.ErrText, 4},
		})
	}
}

func TestBounds(t *testing.T) {
	ones := strings.Repeat("1 ", 500) // code of 1000 bytes
	long, e, at := text.Assemble(ones)
	if len(long) != api.MaxCode || e != api.OK || at != 0 {
		t.Errorf("P4: code of 1000 bytes: %d bytes, %d, %d", len(long), e, at)
	}
	checkGood(t, []good{
		{"the longest text", strings.Repeat(" ", 2000), ""},
		{"the longest text of wide runes", ";" + strings.Repeat("é", 999) + "\n", ""},
		{"the longest code with a remark", ones + ";é", strings.Repeat("6001", 500)},
		{"a label at the code's end", "@a " + strings.Repeat("1 ", 498) + "a:", "6103e7" + strings.Repeat("6001", 498) + "5b"},
	})
	checkBad(t, []bad{
		{"one byte more", strings.Repeat(" ", 2001), api.ErrText, 0},
		{"one byte more, fewer runes", ";" + strings.Repeat("é", 1000), api.ErrText, 0},
		{"much more", strings.Repeat("ADD ", 100000), api.ErrText, 0},
		{"code of 1001 bytes", ones + "0", api.ErrBig, 1001},
		{"code of 1001 bytes, other runes", ones + "0 ;日本", api.ErrBig, 1005},
		{"code of 1001 bytes, by a label", ones + "é:", api.ErrBig, 1002},
		{"code of 1003 bytes, by asking", "a: @a " + strings.Repeat("1 ", 500), api.ErrBig, 1006},
		{"code of 1001 bytes in few runes", strings.Repeat(maxHex+" ", 29) + strings.Repeat("1 ", 22), api.ErrBig, 29*67 + 44},
		{"a fault behind long code", ones + "0 zz", api.ErrText, 1002},
		{"a fault ahead of long code", "@q " + ones + "0", api.ErrName, 0},
	})
}

// P2: nothing of one text is known to the next, and they do not hang on one
// another when several are read at a time.
func TestNothingIsKept(t *testing.T) {
	var all sync.WaitGroup
	for range 8 {
		all.Go(func() {
			for range 50 {
				checkGood(t, []good{{"a label", "a: @a", "5b610000"}})
				checkBad(t, []bad{{"no label", "@a", api.ErrName, 0}})
			}
		})
	}
	all.Wait()
}
