package field_test

import (
	"math"
	"testing"

	"withy/api"
	"withy/field"
	"withy/mem"
	"withy/plan"
)

// noNumbers are numbers of which there is no thing, where there are n, counted from 0.
func noNumbers(n int) []int {
	return []int{math.MinInt, math.MinInt + 1, -1 << 32, -64, -2, -1, n, n + 1, 64, 65, 1 << 16, 1 << 32, 1<<32 + 1, 1 << 62, math.MaxInt - 1, math.MaxInt}
}

// P10.1: no machines of configs that aren't right.
func TestMakersOfWrongConfigs(t *testing.T) {
	b := field.NewBook()
	for _, c := range wrongConfigs() {
		for _, n := range []int{-1, 0, 1, 2, 64} {
			if field.NewStamp(c, n, b) != nil || field.NewRead(c, n, 0, b) != nil || field.NewSee(c, n, 0, 1, b) != nil || field.NewTurn(c, b) != nil || field.NewLay(c, n, 0, n, -2, 0, b) != nil {
				t.Errorf("%+v: a machine", c)
			}
		}
	}
}

// P10.1: no machines of slots, and of words of a body, that there are not.
func TestMakersOfWrongSlots(t *testing.T) {
	b := field.NewBook()
	for _, c := range configs() {
		for _, slot := range noNumbers(c.Slots) {
			if field.NewStamp(c, slot, b) != nil || field.NewRead(c, slot, 0, b) != nil || field.NewSee(c, slot, 0, 1, b) != nil ||
				field.NewLay(c, slot, 0, 0, -2, 0, b) != nil || field.NewLay(c, 0, 0, slot, -2, 0, b) != nil {
				t.Errorf("%+v, the slot %d: a machine", c, slot)
			}
		}
		for _, i := range noNumbers(bodySize(c)) {
			for _, node := range []int{0, c.Slots - 1} {
				if field.NewRead(c, node, i, b) != nil || field.NewSee(c, node, i, 1, b) != nil || field.NewLay(c, node, i, 0, -2, 0, b) != nil {
					t.Errorf("%+v, the word %d: a machine", c, i)
				}
			}
		}
	}
}

// P10.1: no machines without a book.
func TestMakersWithoutABook(t *testing.T) {
	for _, c := range configs() {
		if field.NewStamp(c, 0, nil) != nil || field.NewRead(c, 0, 0, nil) != nil || field.NewSee(c, 0, 0, 1, nil) != nil || field.NewTurn(c, nil) != nil || field.NewLay(c, 0, 0, 0, -2, 0, nil) != nil {
			t.Errorf("%+v: a machine", c)
		}
	}
}

// P10.1: machines of all slots, words of bodies and numbers that there are; what they tell says nothing yet.
func TestMakersOfRight(t *testing.T) {
	b := field.NewBook()
	for _, c := range configs() {
		if u := field.NewTurn(c, b); u == nil {
			t.Fatalf("NewTurn(%+v): nil", c)
		} else {
			isTurn(t, u, 0, 0)
		}
		for slot := range c.Slots {
			if field.NewStamp(c, slot, b) == nil {
				t.Fatalf("NewStamp(%+v, %d): nil", c, slot)
			}
			for i := range bodySize(c) {
				r, s := field.NewRead(c, slot, i, b), field.NewSee(c, slot, i, uint64(i)<<61, b)
				if r == nil || s == nil {
					t.Fatalf("%+v, the slot %d, the word %d: nil", c, slot, i)
				}
				isRead(t, r, none, none, 0)
				same(t, "Val", s.Val, none)
				for _, expect := range []int{math.MinInt, -2, -1, 0, c.Slots - 1, c.Slots, math.MaxInt} {
					l := field.NewLay(c, slot, i, c.Slots-1-slot, expect, uint64(expect), b)
					if l == nil {
						t.Fatalf("NewLay(%+v, %d, %d, .., %d, ..): nil", c, slot, i, expect)
					}
					isLay(t, l, false, 0)
				}
			}
		}
	}
}

// P10.1: a nil machine's work is done, in whatever memory.
func TestNilMachines(t *testing.T) {
	k := newBench(t, config(2))
	for _, s := range []mem.Machine{
		(*field.Stamp)(nil), (*field.Read)(nil), (*field.See)(nil), (*field.Turn)(nil), (*field.Lay)(nil),
		field.NewStamp(k.c, 2, k.b), field.NewRead(k.c, 0, 3, k.b), field.NewSee(k.c, -1, 0, 0, k.b), field.NewTurn(api.Config{}, k.b), field.NewLay(k.c, 0, 0, 2, 0, 0, k.b),
	} {
		k.over(s)
		if !s.Step(nil) {
			t.Errorf("%T, nil, without a memory: its work isn't done", s)
		}
	}
}

// P2.4, rule 5: machines and books that no maker made do no harm.
func TestUnmade(t *testing.T) {
	c := config(3)
	b := &field.Book{Now: 3}
	for _, m := range []*mem.Mem{nil, plan.Memory(c)} {
		for _, s := range []mem.Machine{&field.Stamp{}, &field.Read{}, &field.See{}, &field.Turn{}, &field.Lay{},
			field.NewStamp(c, 1, b), field.NewTurn(c, b), field.NewLay(c, 0, 0, 2, -1, 1, b), field.NewRead(c, 0, 0, b), field.NewSee(c, 0, 0, 1, b)} {
			for range 20 {
				s.Step(m)
			}
		}
	}
	same(t, "Born", b.Born(2), 3)
	same(t, "Turned", b.Turned(1), 3)
}

// busyMemory is a memory of a config, with records on a field, in phases of which the machines have long ways.
func busyMemory(t *testing.T, c api.Config) *mem.Mem {
	words := plan.Memory(c).Words()
	for slot := range c.Slots {
		words[plan.Header(c, slot)] = header(t, api.Header{Kind: api.Record})
	}
	words[plan.Body(c, 0, 0)] = 2
	words[plan.Body(c, 1, 0)] = 1
	words[plan.Body(c, 1, 2)] = 3
	return mem.Of(words)
}

// Rule 5: no step panics in a memory that isn't the config's, wherever the machine is: none, one with fewer words, or one of another config's; and none does more than one touch.
func TestOtherMemories(t *testing.T) {
	c := config(4)
	memories := []func() *mem.Mem{func() *mem.Mem { return nil }}
	for n := range plan.Size(c) {
		memories = append(memories, func() *mem.Mem { return mem.Of(busyMemory(t, c).Words()[:n]) })
	}
	for _, other := range configs() {
		memories = append(memories, func() *mem.Mem { return plan.Memory(other) })
	}
	makers := []func(b *field.Book) mem.Machine{
		func(b *field.Book) mem.Machine { return field.NewStamp(c, 3, b) },
		func(b *field.Book) mem.Machine { return field.NewTurn(c, b) },
		func(b *field.Book) mem.Machine { return field.NewRead(c, 0, 0, b) },
		func(b *field.Book) mem.Machine { return field.NewSee(c, 0, 0, 0, b) },
		func(b *field.Book) mem.Machine { return field.NewLay(c, 0, 0, 3, 0, 2, b) },
		func(b *field.Book) mem.Machine { return field.NewLay(c, 3, 2, 0, -2, 1, b) },
	}
	for ahead := range 16 {
		for _, other := range memories {
			for _, maker := range makers {
				s, right, wrong := maker(field.NewBook()), busyMemory(t, c), other()
				for range ahead {
					s.Step(right)
				}
				for range 20 {
					before := wrong.Touches()
					s.Step(wrong)
					if wrong.Touches() > before+1 {
						t.Fatalf("%d touches in one step", wrong.Touches()-before)
					}
				}
			}
		}
	}
}

// Rule 5: in a nil memory the words are none: what ends without a swap ends.
func TestNilMemory(t *testing.T) {
	c := config(2)
	k := &bench{t: t, c: c, b: field.NewBook()}
	r, s := field.NewRead(c, 0, 0, k.b), field.NewSee(c, 0, 0, 9, k.b)
	p, u := field.NewStamp(c, 0, k.b), field.NewTurn(c, k.b)
	l := field.NewLay(c, 0, 0, 1, 0, 0, k.b)
	same(t, "a Read's steps", k.ends(r), 1)
	isRead(t, r, none, none, 1)
	same(t, "a See's steps", k.ends(s), 1)
	same(t, "a Stamp's steps", k.ends(p), 3)
	same(t, "a Turn's steps", k.ends(u), 2)
	isTurn(t, u, 0, none)
	same(t, "a Lay's steps", k.ends(l), 1)
	isLay(t, l, false, 8)
	same(t, "Born", k.b.Born(0), none)
	same(t, "Turned", k.b.Turned(0), none)
}
