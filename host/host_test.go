package host_test

import (
	"slices"
	"testing"

	"cinder/api"
	"cinder/host"
)

func poor(at api.Word) api.Account { return api.Account{At: at, Balance: n(1)} }

func slots(count int) []api.Slot {
	var list []api.Slot
	for i := range count {
		list = append(list, api.Slot{Key: n(i), Value: n(i + 1)})
	}
	return list
}

func TestRightWorlds(t *testing.T) {
	var eight []api.Account
	for i := range 8 {
		eight = append(eight, api.Account{At: n(10 * i), Balance: n(i), Code: times("x", 1000), Slots: slots(20)})
	}
	for name, world := range map[string][]api.Account{
		"none":          nil,
		"empty":         {},
		"the most":      eight,
		"the ends":      {poor(none), poor(top)},
		"by high parts": {poor(api.Word{9, 9, 9, 1}), poor(api.Word{0, 0, 0, 2}), poor(api.Word{1, 0, 0, 2}), poor(api.Word{0, 1, 0, 2}), poor(api.Word{0, 0, 1, 2})},
		"high keys":     {{At: n(1), Slots: []api.Slot{{Key: n(9), Value: top}, {Key: api.Word{0, 1}, Value: n(1)}, {Key: api.Word{0, 0, 1}, Value: api.Word{0, 0, 0, 1}}, {Key: top, Value: n(1)}}}},
		"the same keys": {{At: n(1), Slots: slots(2)}, {At: n(2), Slots: slots(2)}},
		"code alone":    {{At: n(1), Code: "\x00"}},
		"slots alone":   {{At: n(1), Slots: slots(1)}},
		"much money":    {{At: n(1), Balance: top}, {At: n(2), Balance: top}},
	} {
		h := made(t, world...)
		same(t, "P5: World() of "+name, h.World(), world)
	}
}

func TestWrongWorlds(t *testing.T) {
	slot := func(list ...api.Slot) []api.Account { return []api.Account{poor(n(1)), {At: n(2), Slots: list}} }
	var nine, nineOfNothing []api.Account
	for i := range 9 {
		nine = append(nine, poor(n(i)))
		nineOfNothing = append(nineOfNothing, api.Account{At: n(i)})
	}
	for name, world := range map[string][]api.Account{
		"nine accounts":         nine,
		"nine that are nothing": nineOfNothing,
		"twice the same":        {poor(n(1)), poor(n(1))},
		"twice the same 0":      {{}, {}},
		"falling":               {poor(n(2)), poor(n(1))},
		"falling later":         {poor(n(1)), poor(n(3)), poor(n(2))},
		"falling in the middle": {poor(api.Word{0, 0, 1}), poor(api.Word{9, 9})},
		"falling at the top":    {poor(api.Word{0, 0, 0, 1}), poor(api.Word{9, 9, 9})},
		"not beside, but twice": {poor(n(1)), poor(n(2)), poor(n(1))},
		"much code":             {poor(n(1)), {At: n(2), Code: times("x", 1001)}},
		"many slots":            {{At: n(1), Slots: slots(21)}},
		"a value 0":             slot(api.Slot{Key: n(1)}),
		"a later value 0":       slot(api.Slot{Key: n(1), Value: n(1)}, api.Slot{Key: n(2)}),
		"twice a key":           slot(api.Slot{Key: n(1), Value: n(1)}, api.Slot{Key: n(1), Value: n(2)}),
		"falling keys":          slot(api.Slot{Key: n(2), Value: n(1)}, api.Slot{Key: n(1), Value: n(1)}),
		"keys falling high up":  slot(api.Slot{Key: api.Word{0, 0, 0, 1}, Value: n(1)}, api.Slot{Key: api.Word{5, 5}, Value: n(1)}),
	} {
		if h, e := host.New(world); h != nil || e != api.ErrArg {
			t.Errorf("P5: New of %s: %v, %d, want nil, %d", name, h, e, api.ErrArg)
		}
	}
}

func TestWorldHasNoAccountsOfNothing(t *testing.T) {
	h := made(t, api.Account{}, poor(n(1)), api.Account{At: n(2)}, api.Account{At: n(3), Code: "x"}, api.Account{At: n(4), Slots: slots(1)}, api.Account{At: top})
	same(t, "P5: World()", h.World(), []api.Account{poor(n(1)), {At: n(3), Code: "x"}, {At: n(4), Slots: slots(1)}})
	if l := made(t).World(); len(l) != 0 {
		t.Errorf("P5: World() of nothing: %+v", l)
	}
}

// An account may lose what it had, and others come, more than a world that is
// handed in may have.
func TestAccountsComeAndGo(t *testing.T) {
	clear := assembled(t, "0 0 SSTORE")
	h := made(t, api.Account{At: n(50), Balance: n(20)}, api.Account{At: n(60), Slots: slots(1)}, api.Account{At: n(70), Code: clear, Slots: slots(1)})
	sent(t, h, api.Message{To: n(70), Gas: 1000})
	for i := range 20 {
		sent(t, h, api.Message{From: n(50), To: n(99 - i), Value: n(1)})
	}
	want := []api.Account{{At: n(60), Slots: slots(1)}, {At: n(70), Code: clear}}
	for i := range 20 {
		want = append(want, poor(n(80+i)))
	}
	same(t, "P5: World()", h.World(), want)
}

func TestMoreSlotsThanAWorldMayHave(t *testing.T) {
	h := made(t, api.Account{At: n(7), Code: assembled(t, "1 CALLER SSTORE"), Slots: slots(20)})
	for i := range 30 {
		sent(t, h, api.Message{From: n(50 - i), To: n(7), Gas: 1000})
	}
	want := slots(20)
	for i := range 30 {
		want = append(want, api.Slot{Key: n(21 + i), Value: n(1)})
	}
	want[len(want)-1].Key = n(50)
	same(t, "P5: the slots", h.World()[0].Slots, want)
}

func TestMessages(t *testing.T) {
	world := []api.Account{{At: n(4), Balance: n(7)}, {At: n(6), Balance: api.Word{0, 0, 0, 1}}}
	for name, c := range map[string]struct {
		m api.Message
		e api.Errno
	}{
		"less than no gas":           {api.Message{Gas: -1}, api.ErrArg},
		"the least gas of all":       {api.Message{Gas: -1 << 63}, api.ErrArg},
		"too much gas":               {api.Message{Gas: 100001}, api.ErrArg},
		"much too much gas":          {api.Message{Gas: 1<<63 - 1}, api.ErrArg},
		"too much data":              {api.Message{Data: times("x", 501)}, api.ErrArg},
		"too much gas, too little":   {api.Message{From: n(4), Value: n(8), Gas: 100001}, api.ErrArg},
		"too much data, too little":  {api.Message{From: n(4), Value: n(8), Data: times("x", 501)}, api.ErrArg},
		"one too many":               {api.Message{From: n(4), Value: n(8)}, api.ErrFunds},
		"all that could be":          {api.Message{From: n(6), Value: top}, api.ErrFunds},
		"far too many":               {api.Message{From: n(4), Value: api.Word{0, 1}}, api.ErrFunds},
		"of one that is not":         {api.Message{From: n(9), Value: n(1)}, api.ErrFunds},
		"to oneself, of nothing":     {api.Message{From: n(9), To: n(9), Value: n(1)}, api.ErrFunds},
		"to oneself, one too many":   {api.Message{From: n(4), To: n(4), Value: n(8)}, api.ErrFunds},
		"nothing":                    {api.Message{}, api.OK},
		"nothing of one that is not": {api.Message{From: n(9), To: n(9)}, api.OK},
		"to oneself":                 {api.Message{From: n(4), To: n(4), Value: n(7)}, api.OK},
		"the most":                   {api.Message{Data: times("x", 500), Gas: 100000}, api.OK},
	} {
		h := made(t, world...)
		r, e := h.Send(c.m)
		want := api.Result{}
		if c.e == api.OK {
			want.Gas = c.m.Gas
		}
		if told(r) != told(want) || e != c.e {
			t.Errorf("P6: %s: Send(%+v) = %+v, %d, want %+v, %d", name, c.m, r, e, want, c.e)
		}
		same(t, "P6: the world behind "+name, h.World(), world)
	}
}

func TestMoneyMoves(t *testing.T) {
	h := made(t, api.Account{At: n(1), Balance: api.Word{0, 0, 1}}, api.Account{At: n(2), Balance: api.Word{ones, ones}})
	sent(t, h, api.Message{From: n(1), To: n(2), Value: n(1)})
	same(t, "P6: World()", h.World(), []api.Account{{At: n(1), Balance: api.Word{ones, ones}}, {At: n(2), Balance: api.Word{0, 0, 1}}})
	sent(t, h, api.Message{From: n(1), To: n(3), Value: api.Word{ones, ones}})
	same(t, "P6: World()", h.World(), []api.Account{{At: n(2), Balance: api.Word{0, 0, 1}}, {At: n(3), Balance: api.Word{ones, ones}}})
}

// The sum of money is the same as a word: it may wrap round.
func TestMoneyWrapsRound(t *testing.T) {
	h := made(t, api.Account{At: n(1), Balance: n(5)}, api.Account{At: n(2), Balance: top})
	sent(t, h, api.Message{From: n(1), To: n(2), Value: n(3)})
	same(t, "P6: World()", h.World(), []api.Account{poorer(n(1), 2), poorer(n(2), 2)})
}

func poorer(at api.Word, balance int) api.Account { return api.Account{At: at, Balance: n(balance)} }

func deep(world []api.Account) []api.Account {
	world = slices.Clone(world)
	for i := range world {
		world[i].Slots = slices.Clone(world[i].Slots)
	}
	return world
}

// spoil changes all that can be changed in a list.
func spoil(world []api.Account) {
	for i := range world {
		for k := range world[i].Slots {
			world[i].Slots[k] = api.Slot{Key: top, Value: none}
		}
		_ = append(world[i].Slots[:0], api.Slot{})
		world[i] = api.Account{At: top}
	}
}

// P2: what is handed in is neither kept nor changed.
func TestWhatIsHandedIn(t *testing.T) {
	world := before(assembled(t, "9 1 SSTORE 0 0 LOG0"))
	copied := deep(world)
	h := made(t, world...)
	sent(t, h, api.Message{From: n(5), To: n(7), Value: n(3), Gas: 1000})
	same(t, "P2: what New was given", world, copied)
	want := h.World()
	spoil(world)
	same(t, "P2: World() once what New was given is changed", h.World(), want)
	sent(t, h, api.Message{From: n(5), To: n(7), Value: n(3), Gas: 1000})
}

// P2: lists that come out are the caller's.
func TestWhatComesOut(t *testing.T) {
	h := made(t, before(assembled(t, "CALLDATASIZE 2 CALLDATASIZE 0 MSTORE8 1 0 LOG2 8"))...)
	first := h.World()
	want := deep(first)
	spoil(first)
	same(t, "P2: World() once what it gave is changed", h.World(), want)
	for range 3 {
		r := sent(t, h, api.Message{From: n(5), To: n(7), Data: "abc", Gas: 5000})
		if len(r.Logs) != 1 {
			t.Fatalf("P6: logs: %+v", r)
		}
	}
}

// P2: logs of one message, and their topics, share nothing with one another
// or with those of another message.
func TestLogsAreTheCallers(t *testing.T) {
	h := made(t, api.Account{At: n(7), Code: assembled(t, "1 2 3 4 0 0 LOG4 5 0 0 LOG1 0 0 LOG0 6 7 0 0 LOG2")})
	want := []api.Log{{At: n(7), Topics: []api.Word{n(4), n(3), n(2), n(1)}}, {At: n(7), Topics: []api.Word{n(5)}}, {At: n(7)}, {At: n(7), Topics: []api.Word{n(7), n(6)}}}
	first := sent(t, h, api.Message{To: n(7), Gas: 5000})
	second := sent(t, h, api.Message{To: n(7), Gas: 5000})
	same(t, "P6: logs", first.Logs, want)
	for i := range first.Logs {
		_ = append(first.Logs[i].Topics, top)
	}
	same(t, "P2: logs once topics were added behind", first.Logs, want)
	for i := range first.Logs {
		for k := range first.Logs[i].Topics {
			first.Logs[i].Topics[k] = top
		}
		first.Logs[i] = api.Log{At: top}
	}
	same(t, "P2: logs of another message", second.Logs, want)
	same(t, "P2: logs of a third message", sent(t, h, api.Message{To: n(7), Gas: 5000}).Logs, want)
}

// P2: hosts know nothing of one another, though they were made of one list.
func TestTwoHosts(t *testing.T) {
	world := before(assembled(t, "CALLER 1 SSTORE CALLER 2 SSTORE CALLER 3 TSTORE"))
	one, other := made(t, world...), made(t, world...)
	sent(t, one, api.Message{From: n(5), To: n(7), Value: n(9), Gas: 1000})
	same(t, "P2: the other's world", other.World(), world)
	sent(t, other, api.Message{From: n(5), To: n(8), Value: n(100)})
	want := deep(world)
	want[0].Balance, want[1].Balance = n(91), n(49)
	want[1].Slots = []api.Slot{{Key: n(1), Value: n(5)}, {Key: n(2), Value: n(5)}, {Key: top, Value: top}}
	same(t, "P2: the one's world", one.World(), want)
}
