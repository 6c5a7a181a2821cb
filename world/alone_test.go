package world_test

import (
	"testing"

	"withy/api"
	"withy/client"
	"withy/collect"
	"withy/field"
	"withy/mem"
	"withy/op"
	"withy/plan"
)

// teller does what the chapter says, by the parts that it says a world has, and writes down what is to be told.
type teller struct {
	c         api.Config
	programs  [][]api.Op
	m         *mem.Mem
	b         *field.Book
	clients   []*client.Client
	gc        *collect.Collect
	now       int
	begun     [][]api.Event // each client's operations that began
	over      []api.Event
	told      [][]uint64
	endings   int // how many calls ended by a Rest
	collector int
}

func newTeller(c api.Config, programs [][]api.Op) *teller {
	o := &teller{c: c, programs: programs, m: plan.Memory(c), b: field.NewBook(), gc: collect.NewCollect(c), begun: make([][]api.Event, c.Clients), told: make([][]uint64, c.Clients), collector: c.Clients}
	for who := range c.Clients {
		o.clients = append(o.clients, client.New(c, who, o.b))
	}
	return o
}

// program is a client's, or an empty one.
func (o *teller) program(who int) []api.Op {
	if who < len(o.programs) {
		return o.programs[who]
	}
	return nil
}

// pick is a pick.
func (o *teller) pick(who int) bool {
	if who < 0 || who > o.c.Clients {
		return false
	}
	if who == o.collector {
		o.now++
		o.b.Now = o.now
		o.gc.Step(o.m)
		return true
	}
	k := o.clients[who]
	if !k.Busy() {
		at := len(o.begun[who])
		if at == len(o.program(who)) {
			return false
		}
		o.now++
		o.b.Now = o.now
		call := op.Call(o.program(who)[at], who, o.told)
		k.Begin(call)
		o.begun[who] = append(o.begun[who], api.Event{Client: who, Op: at, Begun: o.now, Call: call})
	} else {
		o.now++
		o.b.Now = o.now
	}
	k.Step(o.m)
	if !k.Busy() {
		e := o.begun[who][len(o.begun[who])-1]
		e.Ended = o.now
		e.Answer = k.Answer()
		e.Point, e.Behind = k.Point()
		o.over = append(o.over, e)
		o.told[who] = append(o.told[who], e.Answer.H)
	}
	return true
}

// busy is who has a call under way.
func (o *teller) busy() []bool {
	var l []bool
	for _, k := range o.clients {
		l = append(l, k.Busy())
	}
	return l
}

// calm tells whether no call is under way.
func (o *teller) calm() bool {
	for _, is := range o.busy() {
		if is {
			return false
		}
	}
	return true
}

// rest is a Rest.
func (o *teller) rest() {
	for turn := 0; !o.calm(); turn++ {
		who := turn % (o.c.Clients + 1)
		if who == o.collector || o.clients[who].Busy() {
			o.pick(who)
		}
	}
	for e := o.gc.E; ; {
		if o.gc.E%4 == 1 && o.gc.E >= e+9 {
			return
		}
		o.pick(o.collector)
	}
}

// all is all that is to be told.
func (o *teller) all() all {
	done := o.calm()
	for who := range o.c.Clients {
		done = done && len(o.begun[who]) == len(o.program(who))
	}
	return all{now: o.now, touches: o.m.Touches(), cycles: o.gc.Cycles, done: done, epoch: o.gc.E, last: o.m.Last(), busy: o.busy(), events: o.over, told: o.told, words: o.m.Words()}
}

// holds holds what the clients hold by all that was answered to anybody, and by numbers that weren't, against what they should.
func (o *teller) holds(k *bench) {
	k.t.Helper()
	numbers := []uint64{0, 1, handle(0, 0, 1), handle(0, 1, 1), handle(1, 0, 1), handle(0, 255, 1), 1<<64 - 1}
	for _, e := range o.over {
		numbers = append(numbers, e.Answer.H)
	}
	for who, one := range o.clients {
		for _, h := range numbers {
			same(k.t, "Holds", k.w.Holds(who, h), one.Holds(h))
		}
	}
}

// P22.2 to P22.4: drawn programs, under drawn picks and rests: behind each pick a world tells what its parts do.
func TestAsItsParts(t *testing.T) {
	seed := uint64(3)
	for n := range 150 {
		c := append(configs(), config(9, 2, 3, 3), config(20, 2, 8, 4))[n%17]
		l := programs(&seed, c, 5+draw(&seed, 12))
		l = l[:len(l)-draw(&seed, 2)]
		k, o := newBench(t, c, l...), newTeller(c, l)
		calm := []int{1, 4, 30}[draw(&seed, 3)]
		for i, who := 0, 0; i < 600; i++ {
			if draw(&seed, calm) == 0 {
				who = draw(&seed, c.Clients+3) - 1
			}
			same(t, "Pick", k.w.Pick(who), o.pick(who))
			o.all().isAll(k)
			if draw(&seed, 150) == 0 {
				k.rests()
				o.rest()
				o.all().isAll(k)
				o.holds(k)
			}
		}
		o.holds(k)
	}
}
