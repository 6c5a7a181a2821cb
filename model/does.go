package model

import (
	"withy/api"
	"withy/op"
)

// Does tells whether a call may be answered so; then it is done.
func (m *Model) Does(who int, call api.Call, a api.Answer) bool {
	if !m.has(who) {
		return false
	}
	k := &m.clients[who]
	switch {
	case call.Kind == api.New:
		return m.makes(k, call, a)
	case call.Kind == api.Load:
		return m.loads(k, call, a)
	case op.Writes(call.Kind):
		return m.writes(k, call, a)
	case call.Kind == api.Release:
		return k.releases(call, a)
	case call.Kind == api.Same:
		return k.compares(call, a)
	case call.Kind == api.Open:
		return m.opens(k, call, a)
	case op.Walk(call.Kind):
		return m.goesOn(k, call, a)
	}
	return a == refusal(api.ErrOp)
}

// refusal is the answer that tells an error.
func refusal(err api.Errno) api.Answer {
	return api.Answer{Err: err}
}

// full tells whether a client holds as many handles as it may.
func (m *Model) full(k *client) bool {
	return len(k.held) >= m.c.Handles
}

// gives tells whether an answer gives a handle that may be given, and nothing beside it. It is noted then, for it may never be given again.
func (m *Model) gives(a api.Answer) bool {
	_, was := m.given[a.H]
	if was || a.H == 0 || a != (api.Answer{H: a.H}) {
		return false
	}
	m.given[a.H] = struct{}{}
	return true
}

// takes has a client hold a node by the handle that an answer gives.
func (m *Model) takes(k *client, node int, a api.Answer) bool {
	if !m.gives(a) {
		return false
	}
	k.held[a.H] = node
	return true
}

// makes does a New.
func (m *Model) makes(k *client, call api.Call, a api.Answer) bool {
	switch {
	case call.N < 0 || call.N > m.c.Arity:
		return a == refusal(api.ErrArg)
	case m.full(k):
		return a == refusal(api.ErrRoom)
	case a == refusal(api.ErrFull):
		return true
	case !m.takes(k, len(m.nodes), a):
		return false
	}
	m.nodes = append(m.nodes, bare(call.N))
	return true
}

// bare is so many fields that name none.
func bare(arity int) []int {
	fields := make([]int, arity)
	for i := range fields {
		fields[i] = none
	}
	return fields
}

// loads does a Load.
func (m *Model) loads(k *client, call api.Call, a api.Answer) bool {
	node, ok := k.held[call.H]
	switch {
	case !ok:
		return a == refusal(api.ErrHandle)
	case !m.hasField(node, call.N):
		return a == refusal(api.ErrField)
	case m.nodes[node][call.N] == none:
		return a == api.Answer{}
	case m.full(k):
		return a == refusal(api.ErrRoom)
	}
	return m.takes(k, m.nodes[node][call.N], a)
}

// writes does a Link, an Unlink or a Swap. Only a Swap asks what stands in the field, and tells that it was done.
func (m *Model) writes(k *client, call api.Call, a api.Answer) bool {
	swaps := call.Kind == api.Swap
	node, ok := k.held[call.H]
	x, y, known := k.named(call)
	switch {
	case !ok || !known:
		return a == refusal(api.ErrHandle)
	case !m.hasField(node, call.N):
		return a == refusal(api.ErrField)
	case swaps && m.nodes[node][call.N] != y:
		return a == api.Answer{}
	case a == refusal(api.ErrFull):
		return true
	case a != api.Answer{Yes: swaps}:
		return false
	}
	m.nodes[node][call.N] = x
	return true
}

// named is what a call that writes has its field name, and what it expects there, where it expects anything; and whether the client holds all that. Only a Swap may name none by a 0.
func (k *client) named(call api.Call) (int, int, bool) {
	switch call.Kind {
	case api.Unlink:
		return none, none, true
	case api.Link:
		x, ok := k.held[call.X]
		return x, none, ok
	}
	x, okX := k.heldOrNone(call.X)
	y, okY := k.heldOrNone(call.Y)
	return x, y, okX && okY
}

// heldOrNone is what a client holds by a handle, or none by a 0.
func (k *client) heldOrNone(h uint64) (int, bool) {
	if h == 0 {
		return none, true
	}
	node, ok := k.held[h]
	return node, ok
}

// releases does a Release.
func (k *client) releases(call api.Call, a api.Answer) bool {
	if _, ok := k.held[call.H]; !ok {
		return a == refusal(api.ErrHandle)
	}
	if a != (api.Answer{}) {
		return false
	}
	delete(k.held, call.H)
	return true
}

// compares does a Same.
func (k *client) compares(call api.Call, a api.Answer) bool {
	node, ok := k.held[call.H]
	other, known := k.held[call.X]
	if !ok || !known {
		return a == refusal(api.ErrHandle)
	}
	return a == api.Answer{Yes: node == other}
}

// opens does an Open.
func (m *Model) opens(k *client, call api.Call, a api.Answer) bool {
	start, ok := k.held[call.H]
	switch {
	case !ok:
		return a == refusal(api.ErrHandle)
	case k.walk != 0:
		return a == refusal(api.ErrOpen)
	case !m.gives(a):
		return false
	}
	k.walk = a.H
	k.coming = m.reached(start)
	return true
}

// reached is all nodes that can be reached from one through fields, as they are now, in the order in which a walk comes to them.
func (m *Model) reached(start int) []int {
	row := []int{start}
	met := map[int]struct{}{start: {}}
	for i := 0; i < len(row); i++ {
		for _, node := range m.nodes[row[i]] {
			if _, was := met[node]; was || node == none {
				continue
			}
			met[node] = struct{}{}
			row = append(row, node)
		}
	}
	return row
}

// goesOn does a Next or a Close. Without a walk no handle is its own, 0 neither.
func (m *Model) goesOn(k *client, call api.Call, a api.Answer) bool {
	switch {
	case k.walk == 0 || call.H != k.walk:
		return a == refusal(api.ErrDone)
	case call.Kind == api.Close:
		return k.closes(a)
	case len(k.coming) == 0:
		return a == refusal(api.ErrDone)
	case m.full(k):
		return a == refusal(api.ErrRoom)
	case !m.takes(k, k.coming[0], a):
		return false
	}
	k.coming = k.coming[1:]
	return true
}

// closes ends the walk.
func (k *client) closes(a api.Answer) bool {
	if a != (api.Answer{}) {
		return false
	}
	k.walk = 0
	k.coming = nil
	return true
}
