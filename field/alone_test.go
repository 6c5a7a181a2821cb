package field_test

import (
	"fmt"
	"math"
	"slices"
	"testing"

	"withy/api"
	"withy/field"
	"withy/mem"
	"withy/plan"
)

// teller does what the chapter says of a machine in one go, with nobody else about, and writes down the touches. The time of a touch is its number, from 1 on.
type teller struct {
	c       api.Config
	words   []uint64
	touches []api.Touch
}

func (o *teller) load(at int) uint64 {
	o.touches = append(o.touches, load(at, o.words[at]))
	return o.words[at]
}

func (o *teller) store(at int, now uint64) {
	o.touches = append(o.touches, store(at, o.words[at], now))
	o.words[at] = now
}

func (o *teller) swap(at int, now uint64) {
	o.touches = append(o.touches, swap(at, o.words[at], now))
	o.words[at] = now
}

func (o *teller) add(at int, by uint64) {
	o.touches = append(o.touches, add(at, o.words[at], o.words[at]+by))
	o.words[at] += by
}

// slot is the slot that a word names.
func (o *teller) slot(w uint64) int {
	for slot := range o.c.Slots {
		if w == uint64(slot)+1 {
			return slot
		}
	}
	return none
}

// stamp is the point of a record that is stamped now, or none of one that was.
func (o *teller) stamp(rec int) int {
	at := plan.Body(o.c, rec, 1)
	if o.load(at) != 0 {
		return none
	}
	clock := o.load(plan.Clock)
	point := len(o.touches)
	o.swap(at, clock)
	return point
}

// read is what a Read tells.
func (o *teller) read(f int) (rec, val, point int) {
	rec = o.slot(o.load(f))
	if rec == none {
		return none, none, 1
	}
	point = max(1, o.stamp(rec))
	return rec, o.slot(o.load(plan.Body(o.c, rec, 0))), point
}

// see is what a See tells.
func (o *teller) see(f int, view uint64) int {
	rec := o.slot(o.load(f))
	if rec != none {
		o.stamp(rec)
	}
	for rec != none {
		if o.load(plan.Body(o.c, rec, 1)) <= view {
			return o.slot(o.load(plan.Body(o.c, rec, 0)))
		}
		rec = o.slot(o.load(plan.Body(o.c, rec, 2)))
	}
	return none
}

// shade shades a record, if it can be.
func (o *teller) shade(rec int, e uint64) {
	at := plan.Header(o.c, rec)
	w := o.load(at)
	kind, mark := w&7, int(w>>3&1)
	if kind != api.Node && kind != api.Record || mark == black(e) {
		return
	}
	o.add(plan.Grays, 1)
	o.swap(at, w&^8|uint64(black(e))<<3|16)
}

// lay is what a Lay tells.
func (o *teller) lay(f, fresh, expect int, e uint64) (laid bool, point int) {
	rec := o.slot(o.load(f))
	point = 1
	if rec != none {
		point = max(1, o.stamp(rec))
	}
	if expect >= -1 {
		val := none
		if rec != none {
			val = o.slot(o.load(plan.Body(o.c, rec, 0)))
		}
		if val != expect {
			return false, point
		}
	}
	o.store(plan.Body(o.c, fresh, 2), uint64(rec+1))
	if rec != none && (e%4 == 1 || e%4 == 2) {
		o.shade(rec, e)
	}
	o.swap(f, uint64(fresh+1))
	return true, o.stamp(fresh)
}

// place is a field of a memory.
type place struct {
	c       api.Config
	node, i int
}

// places are fields in the first and the last slot, at the first and the last word.
func places() []place {
	var l []place
	for _, c := range []api.Config{config(3), {Slots: 5, Arity: 4, Clients: 2, Handles: 3, Gens: 7, Stack: 9}, greatest()} {
		for _, node := range []int{0, c.Slots - 1} {
			for _, i := range []int{0, bodySize(c) - 1} {
				l = append(l, place{c, node, i})
			}
		}
	}
	return l
}

// others are a slot for a record that the field has, and one for a new one.
func (p place) others() (rec, fresh int) {
	if p.node == 0 {
		return p.c.Slots - 1, 1
	}
	return 0, p.node - 1
}

// state is a memory to begin with: the field's word, and the body of the record.
type state struct {
	field, val, stamp, older uint64
}

// states are fields without a record, by 0 and by words that name none, and with one that has a stamp, or none, and a value, or none.
func (p place) states() []state {
	rec, _ := p.others()
	l := []state{{}}
	for _, w := range noSlots(p.c) {
		l = append(l, state{field: w})
	}
	vals := []uint64{0, 1, uint64(p.c.Slots), uint64(p.c.Slots) + 1, 1<<32 + 1, math.MaxUint64}
	for _, val := range vals {
		for _, stamp := range []uint64{0, 1, 7, math.MaxUint64} {
			for _, older := range []uint64{0, 1<<32 + 1} {
				l = append(l, state{uint64(rec) + 1, val, stamp, older})
			}
		}
	}
	return l
}

// words is a memory's words that are so, with the clock at 6, and all else as it is.
func (p place) words(s state, head uint64) []uint64 {
	rec, fresh := p.others()
	words := plan.Memory(p.c).Words()
	words[plan.Clock] = 6
	for i, w := range []uint64{s.val, s.stamp, s.older} {
		words[plan.Body(p.c, rec, i)] = w
	}
	words[plan.Body(p.c, fresh, 0)] = 2
	words[plan.Body(p.c, fresh, 2)] = 99
	words[plan.Header(p.c, rec)] = head
	words[plan.Body(p.c, p.node, p.i)] = s.field
	return words
}

// begin is a bench with these words, and a teller who knows them.
func (p place) begin(t *testing.T, words []uint64) (*bench, *teller) {
	return &bench{t: t, c: p.c, m: mem.Of(words), b: field.NewBook()}, &teller{c: p.c, words: slices.Clone(words)}
}

// ended takes a machine's steps, and holds its touches, and all words, against the teller's.
func (k *bench) ended(s mem.Machine, o *teller) {
	k.steps(s, o.touches)
	if !slices.Equal(k.m.Words(), o.words) {
		k.t.Helper()
		k.t.Fatal("other words were changed")
	}
}

// isBorn holds what the book says of all slots against what the teller's touches say: the time of the clock's load ahead of a stamp's swap.
func (k *bench) isBorn(o *teller) {
	born := map[int]int{}
	clock := 0
	for i, touch := range o.touches {
		if touch.At == plan.Clock {
			clock = i + 1
		}
		slot := plan.Slot(k.c, touch.At)
		if touch.Kind == api.TSwap && slot != none && touch.At == k.body(slot, 1) && touch.Now == o.words[plan.Clock] {
			born[slot] = clock
		}
	}
	for slot := range k.c.Slots {
		want, ok := born[slot]
		if !ok {
			want = none
		}
		same(k.t, "Born", k.b.Born(slot), want)
	}
}

// P10.3: a Read alone, from its first step to its last, of all fields and records.
func TestReadAlone(t *testing.T) {
	for _, p := range places() {
		for _, s := range p.states() {
			k, o := p.begin(t, p.words(s, 0))
			rec, val, point := o.read(k.body(p.node, p.i))
			r := field.NewRead(p.c, p.node, p.i, k.b)
			k.ended(r, o)
			isRead(t, r, rec, val, point)
			k.isBorn(o)
		}
	}
}

// P10.3: a See alone, likewise, in views below the stamp, at it and above.
func TestSeeAlone(t *testing.T) {
	for _, p := range places() {
		for _, s := range p.states() {
			for _, view := range []uint64{0, 1, 2, 5, 6, 7, 8, math.MaxUint64} {
				k, o := p.begin(t, p.words(s, 0))
				val := o.see(k.body(p.node, p.i), view)
				machine := field.NewSee(p.c, p.node, p.i, view, k.b)
				k.ended(machine, o)
				same(t, "Val", machine.Val, val)
				k.isBorn(o)
			}
		}
	}
}

// expects are below -1, -1, the value of a field, and others.
func (p place) expects(s state) []int {
	rec, fresh := p.others()
	l := []int{-3, -2, -1, 0, rec, fresh, p.c.Slots - 1, p.c.Slots}
	if s.val >= 1 && s.val <= uint64(p.c.Slots) {
		l = append(l, int(s.val)-1)
	}
	slices.Sort(l)
	return slices.Compact(l)
}

// heads are headers' words of a record: that can be shaded in an even cycle, in an odd one, gray already, and not at all.
func heads(t *testing.T) []uint64 {
	return []uint64{
		header(t, api.Header{Kind: api.Record, Gen: 3}),
		header(t, api.Header{Kind: api.Record, Mark: 1}),
		header(t, api.Header{Kind: api.Record, Mark: 1, Gray: true, Gen: 1}),
		header(t, api.Header{Kind: api.Limbo, Stamp: 2}),
	}
}

// P10.4: a Lay alone, in epochs of each of the four phases and of both marks, on all fields, with all that may be expected.
func TestLayAlone(t *testing.T) {
	done := map[string]int{}
	for _, p := range places() {
		_, fresh := p.others()
		for _, s := range p.states() {
			for _, expect := range p.expects(s) {
				for _, head := range heads(t) {
					for e := range uint64(8) {
						k, o := p.begin(t, p.words(s, head))
						laid, point := o.lay(k.body(p.node, p.i), fresh, expect, e)
						l := field.NewLay(p.c, p.node, p.i, fresh, expect, e, k.b)
						k.ended(l, o)
						isLay(t, l, laid, point)
						k.isBorn(o)
						done[fmt.Sprint(laid, expect < none, len(o.touches))]++
					}
				}
			}
		}
	}
	if len(done) < 15 {
		t.Errorf("too few ways of a Lay were gone: %v", done)
	}
}

// P10.1, P2.4: to make a machine is no touch, and it works by what the memory, and the time, is when its steps come.
func TestMadeAhead(t *testing.T) {
	c := config(4)
	b := field.NewBook()
	r, s := field.NewRead(c, 0, 0, b), field.NewSee(c, 0, 0, 5, b)
	l, u := field.NewLay(c, 0, 0, 2, 3, 1, b), field.NewTurn(c, b)
	p := field.NewStamp(c, 1, b)
	k := &bench{t: t, c: c, m: plan.Memory(c), b: b}
	k.b.Now = 500
	k.chain(k.body(0, 0), []int{1}, []uint64{0}, 0)
	k.m.Store(k.body(1, 0), 4)
	same(t, "a Stamp's steps", k.ends(p), 3)
	same(t, "a Read's steps", k.ends(r), 3)
	same(t, "a See's steps", k.ends(s), 4)
	same(t, "a Turn's steps", k.ends(u), 2)
	same(t, "a Lay's steps", k.ends(l), 9)
	isRead(t, r, 1, 3, 504)
	same(t, "Val", s.Val, 3)
	isTurn(t, u, 1, 512)
	isLay(t, l, true, 520)
}
