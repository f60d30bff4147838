package host

import (
	"testing"

	"cinder/api"
	"cinder/text"
)

// What a message's frame begins without, asked of a frame alone: that it may
// only read, and that something was returned to it.

func ran(t *testing.T, src string, onlyReads bool, returned string, gas int) (api.Result, *frame) {
	t.Helper()
	code, e, at := text.Assemble(src)
	if e != api.OK {
		t.Fatalf("Assemble(%q): %d at %d", src, e, at)
	}
	f := newFrame(newTrail(accounts{}), code)
	f.self, f.gas, f.onlyReads, f.returned = small(7), gas, onlyReads, returned
	return f.run(), f
}

func TestReadingOnly(t *testing.T) {
	for _, src := range []string{"1 0 SSTORE", "0 0 SSTORE", "1 0 TSTORE", "0 0 TSTORE", "0 0 LOG0", "0 0 0 LOG1", "0 0 0 0 LOG2", "0 0 0 0 0 LOG3", "0 0 0 0 0 0 LOG4"} {
		if r, _ := ran(t, src, false, "", 1000); r.Status != api.Done {
			t.Errorf("%s fails in a frame that may do all", src)
		}
		r, f := ran(t, src, true, "", 1000)
		if r.Status != api.Failed || r.Gas != 0 {
			t.Errorf("%s in a frame that may only read: %+v", src, r)
		}
		if len(f.trail.changes) != 0 || len(f.trail.logs) != 0 || len(f.trail.accounts) != 0 {
			t.Errorf("%s in a frame that may only read leaves a trace", src)
		}
	}
	for _, src := range []string{"0 SLOAD", "0 TLOAD", "0 BALANCE", "1 0 MSTORE", "1 0 MSTORE8", "1 0 0 MCOPY", "1 0 RETURN", "@a JUMP a:"} {
		if r, _ := ran(t, src, true, "", 1000); r.Status != api.Done {
			t.Errorf("%s fails in a frame that may only read", src)
		}
	}
}

func TestReturned(t *testing.T) {
	for src, want := range map[string]string{
		"3 0 0 RETURNDATACOPY 4 0 RETURN":                                     "abc\x00",
		"2 1 1 RETURNDATACOPY 4 0 RETURN":                                     "\x00bc\x00",
		"1 2 0 RETURNDATACOPY 1 0 RETURN":                                     "c",
		"0 9 9 RETURNDATACOPY 1 0 RETURN":                                     "\x00",
		"RETURNDATASIZE 0 MSTORE8 1 0 RETURN":                                 "\x03",
		"RETURNDATASIZE 0 RETURNDATASIZE RETURNDATACOPY 6 0 RETURN":           "\x00\x00\x00abc",
		"0 0xffffffffffffffffffff 0 RETURNDATACOPY MSIZE 0 MSTORE 0 0 RETURN": "",
	} {
		r, _ := ran(t, src, false, "abc", 1000)
		if r.Status != api.Done || r.Output != want {
			t.Errorf("%s: %+v, want %q", src, r, want)
		}
	}
	for _, words := range []string{"4 0 0", "3 1 0", "1 3 0", "2 2 0", "0x10000000000000003 0 0", "1 0x10000000000000000 0",
		"2 0xffffffffffffffffffffffffffffffffffffffffffffffffffffffffffffffff 0", "0xffffffffffffffff 1 0", "1 0 65536"} {
		if r, _ := ran(t, words+" RETURNDATACOPY", false, "abc", 100000); r.Status != api.Failed {
			t.Errorf("%s RETURNDATACOPY of three bytes: %+v", words, r)
		}
	}
	if r, _ := ran(t, "3 0 31 RETURNDATACOPY", false, "abc", 9+3+3+6); r.Status != api.Done || r.Gas != 0 {
		t.Errorf("RETURNDATACOPY with just its gas: %+v", r)
	}
	if r, _ := ran(t, "3 0 31 RETURNDATACOPY", false, "abc", 9+3+3+5); r.Status != api.Failed {
		t.Errorf("RETURNDATACOPY with too little gas: %+v", r)
	}
}

// A trail goes back to a mark and no farther.
func TestTakeBack(t *testing.T) {
	tr := newTrail(accounts{})
	tr.move(small(0), small(1), small(2))
	tr.set(cell{kind: lasting, at: small(1), key: small(3)}, small(4))
	tr.set(cell{kind: passing, at: small(1), key: small(3)}, small(5))
	tr.logs = append(tr.logs, api.Log{At: small(1)})
	m := tr.mark()
	for i := range 3 {
		tr.set(cell{kind: lasting, at: small(1), key: small(3)}, small(i))
		tr.set(cell{kind: passing, at: small(1), key: small(3)}, small(i))
		tr.set(cell{kind: money, at: small(9)}, small(i))
		tr.logs = append(tr.logs, api.Log{At: small(2)})
	}
	tr.takeBack(m)
	if tr.get(cell{kind: lasting, at: small(1), key: small(3)}) != small(4) || tr.get(cell{kind: passing, at: small(1), key: small(3)}) != small(5) {
		t.Error("slots are not as they were at the mark")
	}
	if len(tr.accounts) != 1 || len(tr.logs) != 1 || tr.mark() != m {
		t.Errorf("not as at the mark: %+v", tr)
	}
}
