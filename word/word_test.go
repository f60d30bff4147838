package word_test

import (
	"testing"

	"cinder/api"
	"cinder/word"
)

const (
	ADD uint8 = iota + 1
	MUL
	SUB
	DIV
	SDIV
	MOD
	SMOD
	ADDMOD
	MULMOD
	EXP
	SIGNEXTEND
)

const (
	LT uint8 = iota + 16
	GT
	SLT
	SGT
	EQ
	ISZERO
	AND
	OR
	XOR
	NOT
	BYTE
	SHL
	SHR
	SAR
)

const ones = ^uint64(0)

var (
	zero  = api.Word{}
	one   = api.Word{1}
	max   = api.Word{ones, ones, ones, ones}
	least = api.Word{0, 0, 0, 1 << 63}
	most  = api.Word{ones, ones, ones, ones >> 1}
	// junk stands where an operation may not look.
	junk = api.Word{0xdead, 7, 9, 1 << 63}
)

// n is a small number as a word, with its sign.
func n(x int64) api.Word {
	s := uint64(x >> 63)
	return api.Word{uint64(x), s, s, s}
}

// bit is 2 to the i.
func bit(i int) api.Word {
	var w api.Word
	w[i/64] = 1 << (i % 64)
	return w
}

type row struct {
	name    string
	op      uint8
	a, b, c api.Word
	want    api.Word
}

func check(t *testing.T, rows []row) {
	t.Helper()
	for _, r := range rows {
		got, e := word.Calc(r.op, r.a, r.b, r.c)
		if got != r.want || e != api.OK {
			t.Errorf("P3: %s: Calc(%d, %x, %x, %x) = %x, %d, want %x", r.name, r.op, r.a, r.b, r.c, got, e, r.want)
		}
	}
}

func TestSumsAndProducts(t *testing.T) {
	check(t, []row{
		{"sum", ADD, n(2), n(3), junk, n(5)},
		{"carry through all", ADD, api.Word{ones, ones, ones}, one, junk, bit(192)},
		{"sum wraps", ADD, max, one, junk, zero},
		{"sum of greatest", ADD, max, max, junk, n(-2)},
		{"difference", SUB, n(5), n(3), junk, n(2)},
		{"borrow through all", SUB, bit(192), one, junk, api.Word{ones, ones, ones}},
		{"difference wraps", SUB, zero, one, junk, max},
		{"product", MUL, n(6), n(7), junk, n(42)},
		{"product across limbs", MUL, bit(100), bit(100), junk, bit(200)},
		{"product wraps away", MUL, bit(128), bit(128), junk, zero},
		{"product wraps", MUL, max, max, junk, one},
		{"product with carries", MUL, api.Word{ones, ones}, api.Word{ones, ones}, junk, api.Word{1, 0, ones - 1, ones}},
		{"power", EXP, n(3), n(5), junk, n(243)},
		{"0 to the 0", EXP, zero, zero, junk, one},
		{"0 to the 1", EXP, zero, one, junk, zero},
		{"0 to the greatest", EXP, zero, max, junk, zero},
		{"greatest to the 0", EXP, max, zero, junk, one},
		{"1 to the greatest", EXP, one, max, junk, one},
		{"-1 to the greatest", EXP, max, max, junk, max},
		{"-1 to an even one", EXP, max, bit(255), junk, one},
		{"power just below the bound", EXP, n(2), n(255), junk, least},
		{"power wraps away", EXP, n(2), n(256), junk, zero},
		{"exponent above 64 bits", EXP, n(3), bit(254), junk, one},
	})
}

func TestQuotients(t *testing.T) {
	check(t, []row{
		{"quotient", DIV, n(7), n(2), junk, n(3)},
		{"quotient by 0", DIV, max, zero, junk, zero},
		{"0 by 0", DIV, zero, zero, junk, zero},
		{"smaller by greater", DIV, n(2), n(7), junk, zero},
		{"by 1", DIV, max, one, junk, max},
		{"by itself", DIV, max, max, junk, one},
		{"top bit is no sign", DIV, max, n(2), junk, most},
		{"greatest by the top bit", DIV, max, least, junk, one},
		{"rest", MOD, n(7), n(4), junk, n(3)},
		{"rest by 0", MOD, max, zero, junk, zero},
		{"rest of smaller", MOD, n(2), n(7), junk, n(2)},
		{"rest by 1", MOD, max, one, junk, zero},
		{"rest by the top bit", MOD, max, least, junk, most},
		{"rest, top bit is no sign", MOD, n(-2), max, junk, n(-2)},
	})
}

func TestSignedQuotients(t *testing.T) {
	check(t, []row{
		{"- by +", SDIV, n(-7), n(2), junk, n(-3)},
		{"+ by -", SDIV, n(7), n(-2), junk, n(-3)},
		{"- by -", SDIV, n(-7), n(-2), junk, n(3)},
		{"+ by +", SDIV, n(7), n(2), junk, n(3)},
		{"to 0 from below", SDIV, n(-1), n(2), junk, zero},
		{"by 0", SDIV, n(-7), zero, junk, zero},
		{"least by 0", SDIV, least, zero, junk, zero},
		{"least by -1", SDIV, least, max, junk, least},
		{"least by 1", SDIV, least, one, junk, least},
		{"least by least", SDIV, least, least, junk, one},
		{"greatest by least", SDIV, most, least, junk, zero},
		{"least by greatest", SDIV, least, most, junk, n(-1)},
		{"rest - by +", SMOD, n(-7), n(4), junk, n(-3)},
		{"rest + by -", SMOD, n(7), n(-4), junk, n(3)},
		{"rest - by -", SMOD, n(-7), n(-4), junk, n(-3)},
		{"rest 0 has no sign", SMOD, n(-8), n(4), junk, zero},
		{"rest by 0", SMOD, n(-7), zero, junk, zero},
		{"rest least by -1", SMOD, least, max, junk, zero},
		{"rest least by greatest", SMOD, least, most, junk, n(-1)},
		{"rest greatest by least", SMOD, most, least, junk, most},
	})
}

func TestModuli(t *testing.T) {
	check(t, []row{
		{"sum", ADDMOD, n(5), n(6), n(7), n(4)},
		{"sum is not wrapped", ADDMOD, max, one, n(10), n(6)},
		{"greatest sum", ADDMOD, max, max, n(10), zero},
		{"greatest sum by the greatest", ADDMOD, max, max, max, zero},
		{"sum a bit above the greatest", ADDMOD, max, n(3), max, n(3)},
		{"sum by the top bit", ADDMOD, max, max, least, api.Word{ones - 1, ones, ones, ones >> 1}},
		{"sum by 0", ADDMOD, max, max, zero, zero},
		{"sum by 1", ADDMOD, max, max, one, zero},
		{"product", MULMOD, n(5), n(6), n(7), n(2)},
		{"product is not wrapped", MULMOD, bit(128), bit(128), n(10), n(6)},
		{"greatest product", MULMOD, max, max, n(7), one},
		{"greatest product by the greatest", MULMOD, max, max, max, zero},
		{"greatest product by one less", MULMOD, max, max, n(-2), one},
		{"product by 0", MULMOD, n(5), n(5), zero, zero},
		{"product by 1", MULMOD, max, max, one, zero},
	})
}

func TestSignextend(t *testing.T) {
	check(t, []row{
		{"byte 0, sign on", SIGNEXTEND, zero, n(0xff), junk, max},
		{"byte 0, sign off", SIGNEXTEND, zero, n(0x17f), junk, n(0x7f)},
		{"byte 0, sign on, rest cleared", SIGNEXTEND, zero, n(0x180), junk, n(-0x80)},
		{"byte 1", SIGNEXTEND, one, n(0x8000), junk, n(-0x8000)},
		{"byte 7, at a limb's end", SIGNEXTEND, n(7), bit(63), junk, api.Word{1 << 63, ones, ones, ones}},
		{"byte 8, behind a limb's end", SIGNEXTEND, n(8), bit(71), junk, api.Word{0, ones &^ 0x7f, ones, ones}},
		{"byte 30, sign on", SIGNEXTEND, n(30), bit(247), junk, api.Word{0, 0, 0, ones &^ (1<<55 - 1)}},
		{"byte 30, sign off", SIGNEXTEND, n(30), least, junk, zero},
		{"byte 31", SIGNEXTEND, n(31), least, junk, least},
		{"byte 32", SIGNEXTEND, n(32), n(0xff), junk, n(0xff)},
		{"a byte far above", SIGNEXTEND, max, n(0xff), junk, n(0xff)},
		{"a great byte whose lowest bits are 0", SIGNEXTEND, bit(64), n(0xff), junk, n(0xff)},
	})
}

func TestComparisons(t *testing.T) {
	check(t, []row{
		{"below", LT, one, max, junk, one},
		{"not below itself", LT, max, max, junk, zero},
		{"not below", LT, n(2), one, junk, zero},
		{"the highest limb counts first", LT, api.Word{ones, ones, ones, 1}, api.Word{0, 0, 0, 2}, junk, one},
		{"above", GT, max, one, junk, one},
		{"not above itself", GT, max, max, junk, zero},
		{"not above", GT, one, n(2), junk, zero},
		{"signed below", SLT, max, zero, junk, one},
		{"signed below, both negative", SLT, n(-2), n(-1), junk, one},
		{"signed not below", SLT, zero, max, junk, zero},
		{"signed not below itself", SLT, least, least, junk, zero},
		{"least is below greatest", SLT, least, most, junk, one},
		{"signed above", SGT, zero, max, junk, one},
		{"signed above, both negative", SGT, n(-1), n(-2), junk, one},
		{"signed not above", SGT, least, max, junk, zero},
		{"signed not above itself", SGT, max, max, junk, zero},
		{"greatest is above least", SGT, most, least, junk, one},
		{"alike", EQ, max, max, junk, one},
		{"unlike in the highest bit", EQ, most, max, junk, zero},
		{"unlike in the lowest bit", EQ, n(-2), max, junk, zero},
		{"0", ISZERO, zero, junk, junk, one},
		{"not 0", ISZERO, one, zero, junk, zero},
		{"not 0 in the highest bit", ISZERO, least, zero, junk, zero},
	})
}

func TestBits(t *testing.T) {
	a, b := api.Word{12, ones, 0, 1 << 63}, api.Word{10, 1, ones, 1 << 63}
	check(t, []row{
		{"and", AND, a, b, junk, api.Word{8, 1, 0, 1 << 63}},
		{"or", OR, a, b, junk, api.Word{14, ones, ones, 1 << 63}},
		{"xor", XOR, a, b, junk, api.Word{6, ones - 1, ones, 0}},
		{"not", NOT, a, junk, junk, api.Word{^uint64(12), 0, ones, ones >> 1}},
		{"not of 0", NOT, zero, junk, junk, max},
	})
}

func TestByte(t *testing.T) {
	// Its byte number i is i + 1.
	b := api.Word{0x191a1b1c1d1e1f20, 0x1112131415161718, 0x090a0b0c0d0e0f10, 0x0102030405060708}
	for i := int64(0); i < 32; i++ {
		check(t, []row{{"each byte", BYTE, n(i), b, junk, n(i + 1)}})
	}
	check(t, []row{
		{"the whole byte", BYTE, n(31), max, junk, n(255)},
		{"number 32", BYTE, n(32), max, junk, zero},
		{"a great number", BYTE, max, max, junk, zero},
		{"a great number whose lowest bits are 0", BYTE, bit(64), max, junk, zero},
	})
}

func TestShifts(t *testing.T) {
	for i := range 256 {
		check(t, []row{
			{"one to the left", SHL, n(int64(i)), one, junk, bit(i)},
			{"one to the right", SHR, n(int64(255 - i)), least, junk, bit(i)},
		})
	}
	check(t, []row{
		{"left by 0", SHL, zero, max, junk, max},
		{"left across limbs", SHL, n(4), api.Word{1 << 60, 1 << 61}, junk, api.Word{0, 1, 2}},
		{"left by whole limbs", SHL, n(64), api.Word{1, 2, 3, 4}, junk, api.Word{0, 1, 2, 3}},
		{"left by 255", SHL, n(255), n(3), junk, least},
		{"left by 256", SHL, n(256), max, junk, zero},
		{"left by the greatest", SHL, max, max, junk, zero},
		{"left by a great one whose lowest bits are 0", SHL, bit(64), max, junk, zero},
		{"right by 0", SHR, zero, max, junk, max},
		{"right across limbs", SHR, n(4), api.Word{0, 1, 2}, junk, api.Word{1 << 60, 1 << 61}},
		{"right by whole limbs", SHR, n(64), api.Word{1, 2, 3, 4}, junk, api.Word{2, 3, 4}},
		{"right by 255", SHR, n(255), max, junk, one},
		{"right by 256", SHR, n(256), max, junk, zero},
		{"right by the greatest", SHR, max, max, junk, zero},
		{"right by a great one whose lowest bits are 0", SHR, bit(128), max, junk, zero},
		{"signed by 0", SAR, zero, least, junk, least},
		{"signed rounds down", SAR, n(4), n(-17), junk, n(-2)},
		{"signed of a positive", SAR, n(4), n(17), junk, one},
		{"signed by 255, negative", SAR, n(255), least, junk, max},
		{"signed by 255, positive", SAR, n(255), most, junk, zero},
		{"signed by 254", SAR, n(254), least, junk, n(-2)},
		{"signed by 256, negative", SAR, n(256), least, junk, max},
		{"signed by 256, positive", SAR, n(256), most, junk, zero},
		{"signed by the greatest, negative", SAR, max, n(-2), junk, max},
		{"signed by the greatest, positive", SAR, max, most, junk, zero},
		{"signed by a great one whose lowest bits are 0", SAR, bit(192), n(-2), junk, max},
	})
}

func isOperation(op int) bool {
	return 1 <= op && op <= 11 || 16 <= op && op <= 29
}

// TestNoOperation: every number that is none is ErrArg, with the zero word.
func TestNoOperation(t *testing.T) {
	for op := range 256 {
		for _, a := range []api.Word{zero, one, max, junk} {
			got, e := word.Calc(uint8(op), a, a, a)
			if isOperation(op) {
				if e != api.OK {
					t.Errorf("P3: Calc(%d, %x) has the error %d", op, a, e)
				}
				continue
			}
			if got != zero || e != api.ErrArg {
				t.Errorf("P1, P3: Calc(%d, %x) = %x, %d", op, a, got, e)
			}
		}
	}
}
