package heap_test

import (
	"math"
	"testing"

	"withy/api"
	"withy/plan"
)

// P23.3: one by one: the value of the record that the field names; -1 without one, and of one that has none.
func TestFields(t *testing.T) {
	for _, c := range configs() {
		if c.Slots < 5 || c.Arity < 3 {
			continue
		}
		k := newBench(t, c)
		k.node(4, 0, none, 1)
		k.record(0, 3, 5, 1)
		k.record(1, none, 5, 0)
		k.fields(4, 3, none, none)
		k.record(1, 0, 0, none)
		k.fields(4, 3, none, 0)
		k.record(1, 4, 0, none)
		k.fields(4, 3, none, 4)
		k.node(4, 1, 1, 1)
		k.fields(4, 4, 4, 4)
		k.node(4)
		k.fields(4)
		k.node(4, none, none)
		k.fields(4, none, none)
	}
}

// P23.3: by the newest record alone, whatever its stamp, the views and the clock; whether the node is reached or not.
func TestFieldsAsTheyAre(t *testing.T) {
	for _, clock := range []uint64{0, 1, 6, 9, math.MaxUint64} {
		for _, view := range []uint64{0, 1, 2, 5 + 2, 9 + 2} {
			k := old(t, config(8, 1, 2, 2))
			k.clock(clock)
			k.views(0, view)
			k.fields(0, 4)
			k.holds(0, 0, none)
			k.words[plan.Body(k.c, 1, stamp)] = 0
			k.fields(0, 4)
			k.record(1, none, 0, 2)
			k.fields(0, none)
		}
	}
}

// P23.3: as many as the node's arity says, and no more than its body has.
func TestHowManyFields(t *testing.T) {
	for arity := range api.MaxArity + 1 {
		c := config(3, arity, 1, 1)
		for fields := range 16 {
			k := newBench(t, c)
			k.record(2, 1, 0, none)
			k.heads(0, api.Header{Kind: api.Node, Arity: fields, Mark: 1, Gray: true, Gen: 5, Stamp: 9})
			var want []int
			for i := range bodySize(c) {
				k.words[plan.Body(c, 0, i)] = 3
				if i < fields {
					want = append(want, 1)
				}
			}
			k.fields(0, want...)
		}
	}
}

// P23.3: words that name no slot name nothing; what is no record has no value; a value may be a slot of any kind.
func TestOddFields(t *testing.T) {
	c := config(4, 2, 1, 1)
	for _, w := range strangers(c) {
		k := newBench(t, c)
		k.node(0, none, 1)
		k.record(1, 2, 0, none)
		k.words[plan.Body(c, 0, 0)] = w
		k.fields(0, none, 2)
		k.words[plan.Body(c, 1, value)] = w
		k.fields(0, none, none)
	}
	for _, kind := range []int{api.Free, api.Node, api.Limbo, api.Dead} {
		k := newBench(t, c)
		k.node(0, 1, 3)
		k.record(1, 2, 0, none)
		k.record(3, 2, 0, none)
		k.heads(2, api.Header{Kind: kind})
		k.fields(0, 2, 2)
		k.heads(1, api.Header{Kind: kind, Arity: 2})
		k.fields(0, none, 2)
		k.words[plan.Header(c, 1)] = 1<<9 + api.Record
		k.fields(0, none, 2)
	}
}

// P23.3: nothing of a slot that is no node's, nor of one that there isn't.
func TestFieldsOfNoNode(t *testing.T) {
	for _, c := range configs() {
		for slot := range c.Slots {
			k := newBench(t, c)
			k.fields(slot)
			for _, kind := range []int{api.Free, api.Record, api.Limbo, api.Dead} {
				k.heads(slot, api.Header{Kind: kind, Arity: 3})
				k.fields(slot)
			}
			for _, w := range noHeaders() {
				k.words[plan.Header(c, slot)] = w
				k.fields(slot)
			}
			k.heads(slot, api.Header{Kind: api.Node, Arity: 3})
			k.fields(slot, none, none, none)
		}
		k := newBench(t, c)
		for slot := range c.Slots {
			k.heads(slot, api.Header{Kind: api.Node, Arity: 3})
		}
		for _, slot := range noNumbers(c.Slots) {
			if slot < 0 || slot >= c.Slots {
				k.fields(slot)
			}
		}
	}
}
