package host

import (
	"maps"
	"slices"
	"strings"

	"cinder/api"
)

// account as it is kept: it has no slots of 0.
type account struct {
	balance api.Word
	code    string
	slots   map[api.Word]api.Word
}

// accounts by their places. One that has nothing is not among them: what there
// is not reads the same.
type accounts map[api.Word]account

func isRight(world []api.Account) bool {
	if len(world) > api.MaxAccounts {
		return false
	}
	for i, a := range world {
		if i > 0 && compare(world[i-1].At, a.At) >= 0 {
			return false
		}
		if len(a.Code) > api.MaxCode || !areRight(a.Slots) {
			return false
		}
	}
	return true
}

func areRight(slots []api.Slot) bool {
	if len(slots) > api.MaxSlots {
		return false
	}
	for i, s := range slots {
		if i > 0 && compare(slots[i-1].Key, s.Key) >= 0 {
			return false
		}
		if s.Value == zero {
			return false
		}
	}
	return true
}

func keptAccounts(world []api.Account) accounts {
	all := accounts{}
	for _, a := range world {
		slots := map[api.Word]api.Word{}
		for _, s := range a.Slots {
			slots[s.Key] = s.Value
		}
		// A clone, since a piece of a long string would keep all of that.
		all.put(a.At, account{balance: a.Balance, code: strings.Clone(a.Code), slots: slots})
	}
	return all
}

func (all accounts) put(at api.Word, a account) {
	if a.balance == zero && a.code == "" && len(a.slots) == 0 {
		delete(all, at)
		return
	}
	all[at] = a
}

func (all accounts) setBalance(at, balance api.Word) {
	a := all[at]
	a.balance = balance
	all.put(at, a)
}

func (all accounts) setSlot(at, key, value api.Word) {
	a := all[at]
	if a.slots == nil {
		a.slots = map[api.Word]api.Word{}
	}
	if value == zero {
		delete(a.slots, key)
	} else {
		a.slots[key] = value
	}
	all.put(at, a)
}

func (all accounts) list() []api.Account {
	var list []api.Account
	for _, at := range slices.SortedFunc(maps.Keys(all), compare) {
		a := all[at]
		list = append(list, api.Account{At: at, Balance: a.balance, Code: a.code, Slots: a.slotList()})
	}
	return list
}

func (a account) slotList() []api.Slot {
	var list []api.Slot
	for _, key := range slices.SortedFunc(maps.Keys(a.slots), compare) {
		list = append(list, api.Slot{Key: key, Value: a.slots[key]})
	}
	return list
}
