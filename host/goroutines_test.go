package host_test

import (
	"sync"
	"testing"

	"cinder/api"
	"cinder/host"
)

const (
	askers   = 8
	messages = 60
)

// TestSeveralAtATime: each message counts in two slots, moves money, and gives
// the number that it made: as if each came alone, all numbers differ, and the
// two slots are alike whenever the world is told. Every other message of an
// asker fails behind its changes, and may not be seen.
func TestSeveralAtATime(t *testing.T) {
	code := assembled(t, "1 0 SLOAD ADD DUP1 0 SSTORE DUP1 1 SSTORE CALLDATASIZE @bad JUMPI 0 MSTORE 32 0 RETURN bad: ADD ADD")
	h := made(t, api.Account{At: n(5), Balance: n(askers * messages)}, api.Account{At: n(7), Code: code})
	seen := make([][]string, askers)
	var group sync.WaitGroup
	for i := range askers {
		group.Go(func() {
			for range messages {
				seen[i] = append(seen[i], ask(t, h))
			}
		})
	}
	group.Wait()
	numbers := map[string]bool{}
	for _, list := range seen {
		for _, s := range list {
			numbers[s] = true
		}
	}
	if len(numbers) != askers*messages {
		t.Errorf("P6: %d numbers, want %d", len(numbers), askers*messages)
	}
	all := n(askers * messages)
	same(t, "P6: the world at the end", h.World(), []api.Account{{At: n(7), Balance: all, Code: code, Slots: []api.Slot{{Key: n(0), Value: all}, {Key: n(1), Value: all}}}})
}

func ask(t *testing.T, h *host.Host) string {
	r, e := h.Send(api.Message{From: n(5), To: n(7), Value: n(1), Gas: 1000})
	if e != api.OK || r.Status != api.Done {
		t.Errorf("P6: Send: %+v, %d", r, e)
	}
	bad, e := h.Send(api.Message{From: n(7), To: n(7), Value: n(1), Data: "x", Gas: 1000})
	if e != api.OK || bad.Status != api.Failed {
		t.Errorf("P6: Send of what fails: %+v, %d", bad, e)
	}
	world := h.World()
	last := world[len(world)-1]
	if len(last.Slots) != 2 || last.Slots[0].Value != last.Slots[1].Value || last.Slots[0].Value != last.Balance {
		t.Errorf("P6: a world within a message: %+v", last)
	}
	return r.Output
}

// Hosts that are asked at the same time, one each.
func TestHostsAtATime(t *testing.T) {
	code := assembled(t, "1 0 SLOAD ADD 0 SSTORE")
	var group sync.WaitGroup
	for i := range askers {
		h := made(t, api.Account{At: n(7), Code: code})
		group.Go(func() {
			for range i + 1 {
				h.Send(api.Message{To: n(7), Gas: 1000})
			}
			same(t, "P2: World()", h.World(), []api.Account{{At: n(7), Code: code, Slots: []api.Slot{{Value: n(i + 1)}}}})
		})
	}
	group.Wait()
}

// Several askers of one host whose messages call: 7 counts, then 8 counts by
// CALL, with money, and by DELEGATECALL for 7; a third call counts and fails.
// Within a message the numbers differ, and between messages they must not.
func TestCallsAtATime(t *testing.T) {
	count := "1 0 SLOAD ADD 0 SSTORE "
	seven := assembled(t, count+callOf("CALL", "8", "1", "9000")+callOf("DELEGATECALL", "8", "", "9000")+callOf("CALL", "9", "0", "2000")+"ADD ADD 0 MSTORE 7 BALANCE 32 MSTORE 0 SLOAD 64 MSTORE 96 0 RETURN")
	eight, nine := assembled(t, count), assembled(t, count+callOf("CALL", "8", "0", "1000")+"0 JUMP")
	h := made(t, api.Account{At: n(5), Balance: n(askers * messages)}, api.Account{At: n(7), Code: seven}, api.Account{At: n(8), Code: eight}, api.Account{At: n(9), Code: nine})
	var group sync.WaitGroup
	for range askers {
		group.Go(func() {
			for range messages {
				askCalls(t, h)
			}
		})
	}
	group.Wait()
	all := n(askers * messages)
	same(t, "P6: the world at the end", h.World(), []api.Account{
		{At: n(7), Code: seven, Slots: []api.Slot{{Value: n(2 * askers * messages)}}}, {At: n(8), Balance: all, Code: eight, Slots: []api.Slot{{Value: all}}}, {At: n(9), Code: nine},
	})
}

func askCalls(t *testing.T, h *host.Host) {
	r, e := h.Send(api.Message{From: n(5), To: n(7), Value: n(1), Gas: 20000})
	// Two of the three calls are Done, and all the money has gone on.
	if e != api.OK || r.Status != api.Done || len(r.Output) != 96 || r.Output[:64] != bytes32(2, 0) {
		t.Errorf("P6: Send: %+v, %d", r, e)
	}
	world := h.World()
	if sum(world) != n(askers*messages) {
		t.Errorf("P7: the sum of money is %x", sum(world))
	}
	eight := world[len(world)-2]
	if len(eight.Slots) != 1 || eight.Slots[0].Value != eight.Balance {
		t.Errorf("P6: a world within a message: %+v", eight)
	}
}
