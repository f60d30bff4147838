package text_test

import (
	"math/big"
	"math/rand"
	"regexp"
	"strings"
	"testing"
	"unicode/utf8"

	"cinder/api"
	"cinder/text"
)

var (
	byName     = instructions()
	labelForm  = regexp.MustCompile(`^[a-z\x{80}-\x{10ffff}]{1,10}:$`)
	askForm    = regexp.MustCompile(`^@[a-z\x{80}-\x{10ffff}]{1,10}$`)
	numberForm = regexp.MustCompile(`^([0-9]+|0x[0-9a-f]+)$`)
	itemForm   = regexp.MustCompile(`;[^\n]*|[^ \t\n;]+`)
)

// plainly does what P4 says in another way: by patterns and great numbers, and
// by looking at all other items for each item.
func plainly(src string) (string, api.Errno, int) {
	if len(src) > 2000 {
		return "", api.ErrText, 0
	}
	if !utf8.ValidString(src) {
		// The longest beginning that is UTF-8: a rune that is cut off is not.
		for i := len(src); ; i-- {
			if utf8.ValidString(src[:i]) {
				return "", api.ErrText, len([]rune(src[:i]))
			}
		}
	}
	var items []string
	var places []int
	for _, span := range itemForm.FindAllStringIndex(src, -1) {
		if src[span[0]] != ';' {
			items = append(items, src[span[0]:span[1]])
			places = append(places, len([]rune(src[:span[0]])))
		}
	}
	for i, it := range items {
		if e := faultPlainly(items, i, it); e != api.OK {
			return "", e, places[i]
		}
	}
	var code []byte
	for _, it := range items {
		code = append(code, bytesPlainly(items, it)...)
	}
	if len(code) > 1000 {
		return "", api.ErrBig, len([]rune(src))
	}
	return string(code), api.OK, 0
}

func faultPlainly(items []string, i int, it string) api.Errno {
	_, named := byName[it]
	switch {
	case labelForm.MatchString(it):
		for _, other := range items[:i] {
			if other == it {
				return api.ErrName
			}
		}
	case askForm.MatchString(it):
		for _, other := range items {
			if other == it[1:]+":" {
				return api.OK
			}
		}
		return api.ErrName
	case numberForm.MatchString(it):
		if numberPlainly(it).BitLen() > 256 {
			return api.ErrBig
		}
	case !named:
		return api.ErrText
	}
	return api.OK
}

func numberPlainly(it string) *big.Int {
	base := 10
	if strings.HasPrefix(it, "0x") {
		it, base = it[2:], 16
	}
	n, _ := new(big.Int).SetString(it, base)
	return n
}

func bytesPlainly(items []string, it string) []byte {
	switch {
	case labelForm.MatchString(it):
		return []byte{91}
	case askForm.MatchString(it):
		place := 0
		for _, other := range items {
			if other == it[1:]+":" {
				break
			}
			if askForm.MatchString(other) {
				place += 3
			} else {
				place += len(bytesPlainly(items, other))
			}
		}
		return []byte{97, byte(place / 256), byte(place % 256)}
	case numberForm.MatchString(it):
		b := numberPlainly(it).Bytes()
		return append([]byte{95 + byte(len(b))}, b...)
	}
	return []byte{byte(byName[it])}
}

func compare(t *testing.T, src string) {
	t.Helper()
	code, e, at := text.Assemble(src)
	wantCode, wantE, wantAt := plainly(src)
	if code != wantCode || e != wantE || at != wantAt {
		t.Errorf("P4: Assemble(%q) = %x, %d, %d, want %x, %d, %d", src, code, e, at, wantCode, wantE, wantAt)
	}
}

var bits = []string{
	"a:", "@a", "é:", "@é", "日本:", "@日本", "b:", "@b", "0", "1", "255", "256", "0x", "0xff", "0x0100", "ADD", "JUMP", "DUP16",
	"SWAP1", "LOG4", "add", "zz", ":", "@", ";", " ", " ", " ", " ", "\t", "\n", "\n", "\r", "\xff", "\xe6\x97", "\ufffd", maxDecimal,
	overDecimal, "PUSH1", "PUSH", "abcdefghij", "𝔵", "00", "7",
}

func TestAgainstPlainly(t *testing.T) {
	random := rand.New(rand.NewSource(4))
	for range 3000 {
		var src strings.Builder
		for range random.Intn(12) {
			// Mostly items that are right, or none would get far.
			piece := bits[random.Intn(18)]
			if random.Intn(8) == 0 {
				piece = bits[random.Intn(len(bits))]
			}
			src.WriteString(piece)
			if random.Intn(20) != 0 {
				src.WriteString(" ")
			}
		}
		compare(t, src.String())
	}
}

// Texts about as long as texts and codes may be.
func TestAgainstPlainlyAtTheBounds(t *testing.T) {
	random := rand.New(rand.NewSource(5))
	for range 60 {
		var src strings.Builder
		src.WriteString("ende: ")
		for src.Len() < 980+random.Intn(1030) {
			src.WriteString([]string{"1 ", "1 ", "0x100 ", "ADD ", "@ende "}[random.Intn(5)])
		}
		compare(t, src.String())
	}
}

func FuzzAssemble(f *testing.F) {
	for _, b := range bits {
		f.Add(b)
		f.Add("a: " + b + " @a")
	}
	f.Add("@b JUMP STOP b: 0 ; söd\n1;2")
	f.Fuzz(compare)
}
