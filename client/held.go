package client

import (
	"withy/api"
	"withy/arena"
	"withy/mem"
	"withy/plan"
	"withy/shade"
	"withy/turn"
)

// makes does a New.
func (k *Client) makes(arity int) {
	node := arena.NewMake(k.c, api.Node, arity, k.e, nil)
	k.does(node, func() {
		if node.Full {
			k.ends(refusal(api.ErrFull))
			return
		}
		k.takes(node.Slot, k.ends)
	})
}

// takes has an entry hold a slot, and the call be answered its handle. The table changes with the memory's word, within one step.
func (k *Client) takes(slot int, ends func(a api.Answer)) {
	var a api.Answer
	k.does(once(func(m *mem.Mem) {
		entry, h, _ := k.table.Take(slot)
		k.storeEntry(m, entry)
		a.H = h
	}), func() { ends(a) })
}

// storeEntry has the memory say what the table does of an entry.
func (k *Client) storeEntry(m *mem.Mem, entry int) {
	m.Store(plan.Entry(k.c, k.who, entry), k.table.Word(entry))
}

// releases does a Release.
func (k *Client) releases(h uint64) {
	entry, slot, _ := k.table.Find(h)
	k.shades(slot, func() {
		k.does(once(func(m *mem.Mem) {
			k.table.Drop(entry)
			k.storeEntry(m, entry)
		}), func() { k.ends(api.Answer{}) })
	})
}

// shades has a slot that is to be let go be found, where there is a barrier, ahead of what follows.
func (k *Client) shades(slot int, then func()) {
	if !turn.Fenced(k.e) {
		then()
		return
	}
	k.does(shade.NewShade(k.c, slot, k.e), then)
}
