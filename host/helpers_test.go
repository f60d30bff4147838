package host_test

import (
	"fmt"
	"strings"
	"testing"

	"cinder/api"
	"cinder/host"
	"cinder/text"
)

const ones = ^uint64(0)

var (
	none = api.Word{}
	top  = api.Word{ones, ones, ones, ones}
)

func n(x int) api.Word { return api.Word{uint64(x)} }

func assembled(t *testing.T, src string) string {
	t.Helper()
	code, e, at := text.Assemble(src)
	if e != api.OK {
		t.Fatalf("Assemble(%.80q): %d at %d", src, e, at)
	}
	return code
}

func made(t *testing.T, world ...api.Account) *host.Host {
	t.Helper()
	h, e := host.New(world)
	if h == nil || e != api.OK {
		t.Fatalf("P5: New(%+v): %v, %d", world, h, e)
	}
	return h
}

func sent(t *testing.T, h *host.Host, m api.Message) api.Result {
	t.Helper()
	r, e := h.Send(m)
	if e != api.OK {
		t.Fatalf("P6: Send(%+v): %d", m, e)
	}
	return r
}

// before is the world in which codes are run: 5 has money, 7 the code.
func before(code string) []api.Account {
	return []api.Account{
		{At: n(5), Balance: n(100)},
		{At: n(7), Balance: n(40), Code: code, Slots: []api.Slot{{Key: n(1), Value: n(6)}, {Key: top, Value: top}}},
	}
}

// woken is what a code does that is woken by 5 with the money 3.
func woken(t *testing.T, code, data string, gas int) (api.Result, []api.Account) {
	t.Helper()
	h := made(t, before(code)...)
	r := sent(t, h, api.Message{From: n(5), To: n(7), Value: n(3), Data: data, Gas: gas})
	return r, h.World()
}

// told is a list as a text that tells all of it, but not nil from empty.
func told(x any) string { return fmt.Sprintf("%x", x) }

func same(t *testing.T, what string, got, want any) {
	t.Helper()
	if told(got) != told(want) {
		t.Errorf("%s: %s, want %s", what, told(got), told(want))
	}
}

// fails says that a code fails, and leaves no trace.
func fails(t *testing.T, name, code, data string, gas int) {
	t.Helper()
	r, world := woken(t, code, data, gas)
	same(t, "P6: "+name+" must fail", r, api.Result{Status: api.Failed})
	same(t, "P6: "+name+" must leave no trace", world, before(code))
}

// costs says that a code ends Done with just this gas, and fails with one less.
func costs(t *testing.T, name, code, data string, gas int) {
	t.Helper()
	r, _ := woken(t, code, data, gas)
	if r.Status != api.Done || r.Gas != 0 {
		t.Errorf("P6: %s with the gas %d: %+v, want Done and nothing left", name, gas, r)
	}
	r, _ = woken(t, code, data, gas+11)
	if r.Status != api.Done || r.Gas != 11 {
		t.Errorf("P6: %s with 11 more: %+v, want Done and 11 left", name, r)
	}
	if gas > 0 {
		fails(t, name+" with too little gas", code, data, gas-1)
	}
}

// gives says which word a text leaves on top of the stack.
func gives(t *testing.T, src, data string, want api.Word) {
	t.Helper()
	r, _ := woken(t, assembled(t, src+" 0 MSTORE 32 0 RETURN"), data, 100000)
	if r.Status != api.Done || told(r.Output) != fmt.Sprintf("%016x%016x%016x%016x", want[3], want[2], want[1], want[0]) {
		t.Errorf("P6: %s gives %d, %x, want %x", src, r.Status, r.Output, want)
	}
}

func times(s string, count int) string { return strings.Repeat(s, count) }
