package client_test

import (
	"maps"
	"slices"
	"testing"

	"withy/api"
	"withy/arena"
	"withy/collect"
	"withy/field"
	"withy/plan"
)

// holding is what a client holds by an entry: a slot, or none.
type holding struct {
	tag  uint64
	slot int
}

// person is what a client knows.
type person struct {
	entries []holding
	walks   uint64
	walk    uint64 // the handle, or 0
	start   int
	view    uint64
	row     []int
	met     []int
}

// teller does what the chapter says of a call in one go, with nobody else about, and writes down the touches. Their times are as if each were a step, behind a time.
type teller struct {
	c       api.Config
	words   []uint64
	touches []api.Touch
	before  int // the time ahead of the first step
	born    map[int]int
	people  []*person
}

func (o *teller) now() int {
	return o.before + len(o.touches)
}

func (o *teller) touch(kind, at int, now uint64) {
	o.touches = append(o.touches, api.Touch{Kind: kind, At: at, Was: o.words[at], Now: now})
	o.words[at] = now
}

func (o *teller) load(at int) uint64 {
	o.touch(api.TLoad, at, o.words[at])
	return o.words[at]
}

func (o *teller) store(at int, w uint64) {
	o.touch(api.TStore, at, w)
}

func (o *teller) swap(at int, w uint64) {
	o.touch(api.TSwap, at, w)
}

// slot is the slot that a word names.
func (o *teller) slot(w uint64) int {
	for slot := range o.c.Slots {
		if w == uint64(slot)+1 {
			return slot
		}
	}
	return none
}

// barrier tells whether an epoch's phase has one.
func barrier(e uint64) bool {
	return e%4 == 1 || e%4 == 2
}

// black is the mark of an epoch's cycle.
func black(e uint64) uint64 {
	return 1 - e>>2&1
}

// pin is the epoch in which a client is pinned.
func (o *teller) pin(who int) uint64 {
	e := o.load(plan.Epoch)
	o.store(plan.Pin(o.c, who), 2*e+1)
	o.load(plan.Epoch)
	return e
}

// make makes a slot a node or a record; none, without one.
func (o *teller) make(kind uint64, arity int, e uint64, first uint64) int {
	top := o.load(plan.Top)
	slot := o.slot(top & 0xffff)
	if slot == none {
		return none
	}
	next := o.load(plan.Link(o.c, slot))
	o.swap(plan.Top, (top>>16+1)<<16+next)
	gen := o.load(plan.Header(o.c, slot)) >> 16 & (1<<32 - 1)
	for i := range bodySize(o.c) {
		o.store(plan.Body(o.c, slot, i), first)
		first = 0
	}
	mark := black(e)
	if e%4 == 0 {
		mark = 1 - mark
	}
	o.store(plan.Header(o.c, slot), kind+mark<<3+uint64(arity)<<5+gen<<16)
	return slot
}

// shade shades a slot, if it can be.
func (o *teller) shade(slot int, e uint64) {
	at := plan.Header(o.c, slot)
	w := o.load(at)
	if w>>3&1 == black(e) {
		return
	}
	o.touch(api.TAdd, plan.Grays, o.words[plan.Grays]+1)
	o.swap(at, w&^8|black(e)<<3|16)
}

// stamps is the point of a record that is stamped, now or before.
func (o *teller) stamps(rec int) int {
	at := plan.Body(o.c, rec, stamp)
	if o.load(at) == 0 {
		clock := o.load(plan.Clock)
		o.born[rec] = o.now()
		o.swap(at, clock)
	}
	return o.born[rec]
}

// newest is the record of a field, and the point at which it was there.
func (o *teller) newest(node, i int) (int, int) {
	rec := o.slot(o.load(plan.Body(o.c, node, i)))
	point := o.now()
	if rec != none {
		point = max(point, o.stamps(rec))
	}
	return rec, point
}

// read is what a field names, and the point.
func (o *teller) read(node, i int) (int, int) {
	rec, point := o.newest(node, i)
	if rec == none {
		return none, point
	}
	return o.slot(o.load(plan.Body(o.c, rec, value))), point
}

// see is what a field is seen to name.
func (o *teller) see(node, i int, view uint64) int {
	rec, _ := o.newest(node, i)
	for rec != none {
		if o.load(plan.Body(o.c, rec, stamp)) <= view {
			return o.slot(o.load(plan.Body(o.c, rec, value)))
		}
		rec = o.slot(o.load(plan.Body(o.c, rec, older)))
	}
	return none
}

// lay lays a record, which nobody else hinders, and is its point.
func (o *teller) lay(node, i, rec int, expects bool, e uint64) int {
	was, _ := o.newest(node, i)
	if expects && was != none {
		o.load(plan.Body(o.c, was, value))
	}
	o.store(plan.Body(o.c, rec, older), uint64(was+1))
	if was != none && barrier(e) {
		o.shade(was, e)
	}
	o.swap(plan.Body(o.c, node, i), uint64(rec+1))
	return o.stamps(rec)
}

// find is what a client holds by a handle, and by which entry.
func (o *teller) find(who int, h uint64) (int, int) {
	for i, e := range o.people[who].entries {
		if e.slot != none && h == handle(who, i, e.tag) {
			return i, e.slot
		}
	}
	return none, none
}

func (o *teller) holds(who int, h uint64) int {
	_, slot := o.find(who, h)
	return slot
}

func (o *teller) room(who int) bool {
	return slices.ContainsFunc(o.people[who].entries, func(e holding) bool { return e.slot == none })
}

// hold has a client hold a slot by its first entry that is free.
func (o *teller) hold(who, slot int) api.Answer {
	k := o.people[who]
	i := slices.IndexFunc(k.entries, func(e holding) bool { return e.slot == none })
	k.entries[i] = holding{k.entries[i].tag + 1, slot}
	o.store(plan.Entry(o.c, who, i), k.entries[i].tag<<32+uint64(slot)+1)
	return gives(handle(who, i, k.entries[i].tag))
}

// refused is what a call is refused by at once, or OK.
func (o *teller) refused(who int, call api.Call) api.Errno {
	k := o.people[who]
	held := func(h uint64) bool { return o.holds(who, h) != none }
	switch call.Kind {
	case api.New:
		if call.N < 0 || call.N > o.c.Arity {
			return api.ErrArg
		}
		if !o.room(who) {
			return api.ErrRoom
		}
		return api.OK
	case api.Next, api.Close:
		if k.walk == 0 || call.H != k.walk || call.Kind == api.Next && len(k.row) == 0 {
			return api.ErrDone
		}
		if call.Kind == api.Next && !o.room(who) {
			return api.ErrRoom
		}
		return api.OK
	case api.Load, api.Unlink, api.Release, api.Open:
		if !held(call.H) {
			return api.ErrHandle
		}
		if call.Kind == api.Open && k.walk != 0 {
			return api.ErrOpen
		}
		return api.OK
	case api.Link, api.Same:
		if !held(call.H) || !held(call.X) {
			return api.ErrHandle
		}
		return api.OK
	case api.Swap:
		if !held(call.H) || call.X != 0 && !held(call.X) || call.Y != 0 && !held(call.Y) {
			return api.ErrHandle
		}
		return api.OK
	}
	return api.ErrOp
}

// call is what a call is answered, its point, and whether it is behind.
func (o *teller) call(who int, call api.Call) (api.Answer, int, bool) {
	if err := o.refused(who, call); err != api.OK {
		return only(err), o.before + 1, true
	}
	if call.Kind == api.Same {
		return api.Answer{Yes: o.holds(who, call.H) == o.holds(who, call.X)}, o.before + 1, true
	}
	e := o.pin(who)
	a, point, behind := o.pinned(who, call, e)
	o.store(plan.Pin(o.c, who), 0)
	return a, point, behind
}

// pinned is what comes between the pin and the leave.
func (o *teller) pinned(who int, call api.Call, e uint64) (api.Answer, int, bool) {
	switch k := o.people[who]; call.Kind {
	case api.New:
		slot := o.make(api.Node, call.N, e, 0)
		if slot == none {
			return only(api.ErrFull), o.now(), true
		}
		return o.hold(who, slot), o.now(), true
	case api.Release:
		i, slot := o.find(who, call.H)
		if barrier(e) {
			o.shade(slot, e)
		}
		k.entries[i].slot = none
		o.store(plan.Entry(o.c, who, i), k.entries[i].tag<<32)
	case api.Open:
		return o.opens(who, o.holds(who, call.H))
	case api.Next:
		return o.next(who), o.now(), true
	case api.Close:
		if barrier(e) {
			o.shade(k.start, e)
		}
		o.store(plan.Start(o.c, who), 0)
		o.store(plan.View(o.c, who), 0)
		k.walk = 0
	default:
		return o.field(who, call, e)
	}
	return ok, o.now(), true
}

// field is a Load, a Link, an Unlink or a Swap.
func (o *teller) field(who int, call api.Call, e uint64) (api.Answer, int, bool) {
	node := o.holds(who, call.H)
	arity := int(o.load(plan.Header(o.c, node)) >> 5 & 15)
	if call.N < 0 || call.N >= arity {
		return only(api.ErrField), o.now(), true
	}
	x, a := none, ok
	point := none
	switch call.Kind {
	case api.Load:
		val, point := o.read(node, call.N)
		switch {
		case val == none:
			return ok, point, true
		case !o.room(who):
			return only(api.ErrRoom), point, true
		}
		return o.hold(who, val), point, true
	case api.Link:
		x = o.holds(who, call.X)
	case api.Swap:
		x = o.holds(who, call.X)
		a = yes
		var val int
		val, point = o.read(node, call.N)
		if val != o.holds(who, call.Y) {
			return ok, point, true
		}
	}
	rec := o.make(api.Record, 0, e, uint64(x+1))
	if rec == none {
		if point == none {
			point = o.now()
		}
		return only(api.ErrFull), point, true
	}
	return a, o.lay(node, call.N, rec, call.Kind == api.Swap, e), false
}

// opens is an Open.
func (o *teller) opens(who, start int) (api.Answer, int, bool) {
	k := o.people[who]
	o.store(plan.View(o.c, who), 1)
	o.store(plan.Start(o.c, who), uint64(start)+1)
	k.view = o.load(plan.Clock)
	o.swap(plan.Clock, k.view+1)
	point := o.now()
	o.store(plan.View(o.c, who), k.view+2)
	k.walks++
	k.walk = handle(who, 255, k.walks)
	k.start, k.row, k.met = start, []int{start}, []int{start}
	return gives(k.walk), point, true
}

// next is a Next.
func (o *teller) next(who int) api.Answer {
	k := o.people[who]
	node := k.row[0]
	arity := int(o.load(plan.Header(o.c, node)) >> 5 & 15)
	for i := range arity {
		if val := o.see(node, i, k.view); val != none && !slices.Contains(k.met, val) {
			k.row, k.met = append(k.row, val), append(k.met, val)
		}
	}
	k.row = k.row[1:]
	return o.hold(who, node)
}

// newTeller is one who knows clients that did nothing yet.
func newTeller(c api.Config) *teller {
	o := &teller{c: c, born: map[int]int{}}
	for range c.Clients {
		o.people = append(o.people, &person{entries: slices.Repeat([]holding{{0, none}}, c.Handles)})
	}
	return o
}

// sync has the teller know what a memory, and a book, say now.
func (o *teller) sync(k *bench) {
	o.words, o.before, o.touches = k.m.Words(), k.b.Now, nil
	for slot := range o.c.Slots {
		o.born[slot] = k.b.Born(slot)
	}
}

// dealt is what calls are drawn by: the handles that were given to each client, those that are held or were let go lately.
type dealt struct {
	seed  *uint64
	c     api.Config
	given [][]uint64
}

// handle is one that a client was given, most often; sometimes another one's, or a forged one, or 0.
func (d *dealt) handle(who int) uint64 {
	if draw(d.seed, 30) == 0 {
		who = draw(d.seed, d.c.Clients)
	}
	l := d.given[who]
	if len(l) == 0 || draw(d.seed, 25) == 0 {
		return []uint64{0, 0, handle(who, 0, 1), handle(who, 255, 1), 1 << 60, uint64(draw(d.seed, 99))}[draw(d.seed, 6)]
	}
	return l[draw(d.seed, len(l))]
}

// call is one of any kind.
func (d *dealt) call(who int) api.Call {
	kinds := []int{1, 1, 1, 2, 2, 2, 3, 3, 3, 3, 4, 5, 5, 5, 6, 6, 7, 8, 8, 9, 9, 9, 10, draw(d.seed, 14) - 1}
	call := api.Call{Kind: kinds[draw(d.seed, len(kinds))], N: draw(d.seed, d.c.Arity+1)}
	if call.Kind != api.New && draw(d.seed, 8) > 0 {
		call.N = draw(d.seed, max(1, d.c.Arity))
	} else if draw(d.seed, 40) == 0 {
		call.N = draw(d.seed, 20) - 8
	}
	call.H, call.X, call.Y = d.handle(who), d.handle(who), d.handle(who)
	return call
}

// note keeps what was given, and forgets most of what isn't held any more.
func (d *dealt) note(who int, call api.Call, a api.Answer) {
	if a.H != 0 {
		d.given[who] = append(d.given[who], a.H)
	}
	gone := a.Err == api.OK && (call.Kind == api.Release || call.Kind == api.Close)
	if gone && draw(d.seed, 6) > 0 {
		d.given[who] = slices.DeleteFunc(d.given[who], func(h uint64) bool { return h == call.H })
	}
}

// holds holds all that the clients of a memory hold against what the teller says.
func (k *bench) tells(o *teller, given [][]uint64) {
	k.t.Helper()
	for who := range k.c.Clients {
		for _, h := range slices.Concat(given...) {
			k.holds(who, h, o.holds(who, h))
		}
	}
}

// calls has a client do a call, and holds each step, and what is told then, against the chapter told in one go.
func (k *bench) calls(o *teller, who int, call api.Call) api.Answer {
	k.t.Helper()
	o.sync(k)
	a, point, behind := o.call(who, call)
	if len(o.touches) == 0 {
		k.atOnce(who, call, a)
		return a
	}
	k.begins(who, call)
	for i, touch := range o.touches {
		if done := k.step(k.k[who], 1); done != (i == len(o.touches)-1) || k.m.Last() != touch {
			k.t.Fatalf("%+v, the step %d: done %v, the touch %+v, want %+v of %d", call, i, done, k.m.Last(), touch, len(o.touches))
		}
	}
	k.over(who, a, point, behind)
	if !slices.Equal(k.m.Words(), o.words) {
		k.t.Fatalf("%+v: other words", call)
	}
	return a
}

// crosses has somebody else, who is alone for the while, give a field of one client's node a value of another one's, if there is a slot for the record.
func (k *bench) crosses(o *teller, d *dealt) {
	k.t.Helper()
	node, val := o.holds(0, d.handle(0)), none
	for who := range k.c.Clients {
		if slot := o.holds(who, d.handle(who)); slot != none {
			val = slot
		}
	}
	if node == none || k.head(node).Arity == 0 {
		return
	}
	e := k.word(plan.Epoch)
	rec := arena.NewMake(k.c, api.Record, 0, e, []uint64{uint64(val + 1)})
	k.ends(rec)
	if !rec.Full {
		k.ends(field.NewLay(k.c, node, draw(d.seed, k.head(node).Arity), rec.Slot, -2, e, k.b))
	}
}

// P21.1 to P21.3: clients by turns, each call alone, touch by touch, with a collector that goes on between the calls, and somebody who has clients come to one another's nodes.
func TestAlone(t *testing.T) {
	seed := uint64(8)
	told := map[[2]int]int{}
	for n := range 400 {
		c := []api.Config{
			{Slots: 6, Arity: 1, Clients: 2, Handles: 3, Gens: 60, Stack: 1},
			{Slots: 14, Arity: 2, Clients: 1, Handles: 4, Gens: 9, Stack: 3},
			{Slots: 30, Arity: 4, Clients: 3, Handles: 6, Gens: api.MaxGens, Stack: 2},
			{Slots: 64, Arity: 8, Clients: 8, Handles: 16, Gens: api.MaxGens, Stack: 64},
			{Slots: 3, Arity: 0, Clients: 2, Handles: 1, Gens: api.MaxGens, Stack: 0},
		}[n%5]
		k, o := newBench(t, c), newTeller(c)
		d := &dealt{&seed, c, make([][]uint64, c.Clients)}
		gc := collect.NewCollect(c)
		for range 120 {
			for range draw(&seed, 3) * draw(&seed, 4*c.Slots) {
				k.step(gc, 1)
			}
			if draw(&seed, 12) == 0 {
				k.crosses(o, d)
			}
			who := draw(&seed, c.Clients)
			call := d.call(who)
			a := k.calls(o, who, call)
			d.note(who, call, a)
			told[[2]int{call.Kind, int(a.Err)}]++
			if a == yes {
				told[[2]int{call.Kind, none}]++
			}
		}
		k.tells(o, d.given)
	}
	for _, want := range [][2]int{
		{api.New, 0}, {api.New, int(api.ErrArg)}, {api.New, int(api.ErrFull)}, {api.New, int(api.ErrRoom)},
		{api.Load, 0}, {api.Load, int(api.ErrHandle)}, {api.Load, int(api.ErrField)}, {api.Load, int(api.ErrRoom)},
		{api.Link, 0}, {api.Link, int(api.ErrHandle)}, {api.Link, int(api.ErrField)}, {api.Link, int(api.ErrFull)},
		{api.Unlink, 0}, {api.Unlink, int(api.ErrFull)},
		{api.Swap, 0}, {api.Swap, none}, {api.Swap, int(api.ErrHandle)}, {api.Swap, int(api.ErrField)}, {api.Swap, int(api.ErrFull)},
		{api.Release, 0}, {api.Same, 0}, {api.Same, none}, {api.Open, 0}, {api.Open, int(api.ErrOpen)},
		{api.Next, 0}, {api.Next, int(api.ErrDone)}, {api.Next, int(api.ErrRoom)}, {api.Close, 0}, {api.Close, int(api.ErrDone)},
	} {
		if told[want] < 20 {
			t.Errorf("the kind %d was answered %d only %d times (%v)", want[0], want[1], told[want], maps.Clone(told))
		}
	}
}
