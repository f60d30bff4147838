package word_test

import (
	"math/big"
	"math/rand"
	"sync"
	"testing"

	"cinder/api"
	"cinder/word"
)

func pow2(i uint) *big.Int { return new(big.Int).Lsh(big.NewInt(1), i) }

func number(w api.Word) *big.Int {
	x := new(big.Int)
	for i := 3; i >= 0; i-- {
		x.Lsh(x, 64).Or(x, new(big.Int).SetUint64(w[i]))
	}
	return x
}

func signed(w api.Word) *big.Int {
	x := number(w)
	if x.Bit(255) == 1 {
		x.Sub(x, pow2(256))
	}
	return x
}

func wrap(x *big.Int) api.Word {
	y := new(big.Int).Mod(x, pow2(256))
	var w api.Word
	for i := range w {
		w[i] = new(big.Int).Mod(new(big.Int).Rsh(y, uint(64*i)), pow2(64)).Uint64()
	}
	return w
}

func flag(holds bool) *big.Int {
	if holds {
		return big.NewInt(1)
	}
	return new(big.Int)
}

// divided is 0, if the divisor is, as the table of operations has it.
func divided(by func(x, y *big.Int) *big.Int, x, y *big.Int) *big.Int {
	if y.Sign() == 0 {
		return new(big.Int)
	}
	return by(x, y)
}

// count is a as a number of bits or bytes, if it is below the bound.
func count(a api.Word, bound int64) (uint, bool) {
	x := number(a)
	return uint(x.Uint64()), x.Cmp(big.NewInt(bound)) < 0
}

// expected works an operation out with the library's great numbers.
func expected(op uint8, a, b, c api.Word) api.Word {
	x, y, z := number(a), number(b), number(c)
	sx, sy := signed(a), signed(b)
	r := new(big.Int)
	switch op {
	case ADD:
		r.Add(x, y)
	case MUL:
		r.Mul(x, y)
	case SUB:
		r.Sub(x, y)
	case DIV:
		r = divided(r.Quo, x, y)
	case SDIV:
		r = divided(r.Quo, sx, sy)
	case MOD:
		r = divided(r.Rem, x, y)
	case SMOD:
		r = divided(r.Rem, sx, sy)
	case ADDMOD:
		r = divided(r.Rem, new(big.Int).Add(x, y), z)
	case MULMOD:
		r = divided(r.Rem, new(big.Int).Mul(x, y), z)
	case EXP:
		r.Exp(x, y, pow2(256))
	case SIGNEXTEND:
		r = extended(a, y)
	case LT:
		r = flag(x.Cmp(y) < 0)
	case GT:
		r = flag(x.Cmp(y) > 0)
	case SLT:
		r = flag(sx.Cmp(sy) < 0)
	case SGT:
		r = flag(sx.Cmp(sy) > 0)
	case EQ:
		r = flag(x.Cmp(y) == 0)
	case ISZERO:
		r = flag(x.Sign() == 0)
	case AND:
		r.And(x, y)
	case OR:
		r.Or(x, y)
	case XOR:
		r.Xor(x, y)
	case NOT:
		r.Not(x)
	default:
		r = moved(op, a, b)
	}
	return wrap(r)
}

func extended(a api.Word, y *big.Int) *big.Int {
	k, ok := count(a, 31)
	if !ok {
		return y
	}
	low := new(big.Int).Mod(y, pow2(8*k+8))
	if low.Bit(int(8*k+7)) == 1 {
		low.Sub(low, pow2(8*k+8))
	}
	return low
}

func moved(op uint8, a, b api.Word) *big.Int {
	if op == BYTE {
		k, ok := count(a, 32)
		if !ok {
			return new(big.Int)
		}
		return new(big.Int).Mod(new(big.Int).Rsh(number(b), 8*(31-k)), pow2(8))
	}
	by, ok := count(a, 256)
	if !ok {
		by = 256
	}
	switch op {
	case SHL:
		return new(big.Int).Lsh(number(b), by)
	case SHR:
		return new(big.Int).Rsh(number(b), by)
	}
	return new(big.Int).Rsh(signed(b), by)
}

// edges are words about the bounds that the table of operations names.
func edges() []api.Word {
	list := []api.Word{junk, {ones, 0, ones, 0}, {0, ones, 0, ones}}
	for _, x := range []int64{0, 1, 2, 3, 7, 8, 30, 31, 32, 63, 64, 65, 127, 128, 255, 256, 257} {
		list = append(list, n(x), n(-x))
	}
	for _, i := range []int{63, 64, 127, 128, 192, 254, 255} {
		list = append(list, bit(i), wrap(new(big.Int).Sub(number(bit(i)), big.NewInt(1))), wrap(new(big.Int).Neg(number(bit(i)))))
	}
	return list
}

func compare(t *testing.T, a, b, c api.Word) {
	t.Helper()
	for op := range 256 {
		if !isOperation(op) {
			continue
		}
		got, e := word.Calc(uint8(op), a, b, c)
		if want := expected(uint8(op), a, b, c); got != want || e != api.OK {
			t.Fatalf("P3: Calc(%d, %x, %x, %x) = %x, %d, want %x", op, a, b, c, got, e, want)
		}
	}
}

func TestEdgesAgainstGreatNumbers(t *testing.T) {
	list := edges()
	for i, a := range list {
		for j, b := range list {
			compare(t, a, b, list[(7*i+11*j)%len(list)])
		}
	}
}

func TestManyAgainstGreatNumbers(t *testing.T) {
	r := rand.New(rand.NewSource(2))
	// Limbs of all lengths, and of noughts and ones alone, where carries run far.
	any := func() api.Word {
		var w api.Word
		for i := range w {
			switch r.Intn(4) {
			case 0:
				w[i] = ones
			case 1:
				w[i] = r.Uint64() >> r.Intn(64)
			case 2:
				w[i] = r.Uint64()
			}
		}
		return w
	}
	for range 3000 {
		a, b, c := any(), any(), any()
		compare(t, a, b, c)
		compare(t, n(int64(r.Intn(300))), b, c)
	}
}

// FuzzCalc: P1: at no op and no words does Calc panic, and P3 holds there.
func FuzzCalc(f *testing.F) {
	f.Add(uint8(9), ones, uint64(0), ones, uint64(1), uint64(2), ones, uint64(3), ones)
	f.Add(uint8(0), uint64(0), uint64(0), uint64(0), uint64(0), uint64(0), uint64(0), uint64(0), uint64(0))
	f.Fuzz(func(t *testing.T, op uint8, a0, a1, a2, a3, b0, b1, b2, b3 uint64) {
		a, b, c := api.Word{a0, a1, a2, a3}, api.Word{b0, b1, b2, b3}, api.Word{a3, b0, b3, a1}
		got, e := word.Calc(op, a, b, c)
		if !isOperation(int(op)) {
			if got != zero || e != api.ErrArg {
				t.Fatalf("P3: Calc(%d) = %x, %d", op, got, e)
			}
			return
		}
		if want := expected(op, a, b, c); got != want || e != api.OK {
			t.Fatalf("P3: Calc(%d, %x, %x, %x) = %x, %d, want %x", op, a, b, c, got, e, want)
		}
	})
}

// TestNothingIsKept: P2: an answer hangs neither on what was asked before nor
// on what others ask at the same time. (Words are handed in by value: there is
// no way to change the caller's.)
func TestNothingIsKept(t *testing.T) {
	list := edges()
	var group sync.WaitGroup
	for k := range 4 {
		group.Go(func() {
			for i := range list {
				askTwice(t, list[i], list[(i+k)%len(list)], list[(i+2*k)%len(list)])
			}
		})
	}
	group.Wait()
}

func askTwice(t *testing.T, a, b, c api.Word) {
	for op := range 256 {
		first, e := word.Calc(uint8(op), a, b, c)
		word.Calc(uint8(op)+1, c, a, b)
		again, e2 := word.Calc(uint8(op), a, b, c)
		if first != again || e != e2 {
			t.Errorf("P2: Calc(%d, %x, %x, %x) = %x, %d and then %x, %d", op, a, b, c, first, e, again, e2)
		}
	}
}
