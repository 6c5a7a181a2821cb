package model_test

import (
	"slices"
	"testing"

	"withy/api"
)

// draw is the next of a row of numbers that looks like no order at all, below n.
func draw(seed *uint64, n int) int {
	*seed = *seed*6364136223846793005 + 1442695040888963407
	return int(*seed>>33) % n
}

// pair is a model, with the plain telling that it is held against.
type pair struct {
	*bench
	p    *plain
	last uint64 // the greatest handle that was drawn
}

// newPair is one in which nothing is.
func newPair(t *testing.T, c api.Config) *pair {
	t.Helper()
	return &pair{bench: newBench(t, c), p: &plain{c: c}, last: 10}
}

// copied is a pair of copies.
func (q *pair) copied() *pair {
	return &pair{bench: q.bench.copied(), p: q.p.copied(), last: q.last}
}

// handle is one that was given, mostly; or 0, or none that ever was.
func (q *pair) handle(seed *uint64, who int) uint64 {
	var own []uint64
	for _, h := range q.given {
		if q.p.holds(who, h) != none {
			own = append(own, h)
		}
	}
	switch n := draw(seed, 20); {
	case n < 15 && len(own) > 0:
		return own[draw(seed, len(own))]
	case n < 16 && len(q.given) > 0:
		return q.given[draw(seed, len(q.given))]
	case n < 19:
		return 0
	}
	return 3
}

// usual is the greatest arity for a New, and a field of such nodes for all others.
func (q *pair) usual(seed *uint64, kind int) int {
	if kind == api.New {
		return q.c.Arity
	}
	return draw(seed, max(q.c.Arity, 1))
}

// call is one of any kind.
func (q *pair) call(seed *uint64, who int) api.Call {
	kinds := []int{1, 1, 2, 2, 2, 2, 3, 3, 3, 3, 3, 4, 5, 5, 5, 6, 7, 8, 9, 9, 9, 10, 0, 11}
	call := api.Call{Kind: kinds[draw(seed, len(kinds))], N: draw(seed, q.c.Arity+3) - 1}
	if draw(seed, 4) > 0 {
		call.N = q.usual(seed, call.Kind)
	}
	call.H = q.handle(seed, who)
	call.X = q.handle(seed, who)
	call.Y = q.handle(seed, who)
	if opened := q.p.walk(who); opened >= 0 && draw(seed, 4) > 0 && (call.Kind == api.Next || call.Kind == api.Close) {
		call.H = q.p.log[opened].a.H
	}
	return call
}

// some are answers of all errors, with some handles: 0, those that the call has, some that were given, and the next one.
func (q *pair) some(seed *uint64, call api.Call) []api.Answer {
	handles := []uint64{0, call.H, call.X, q.last + 1}
	if len(q.given) > 0 {
		handles = append(handles, q.given[draw(seed, len(q.given))], q.given[len(q.given)-1])
	}
	var l []api.Answer
	for _, err := range errnos() {
		for _, h := range handles {
			l = append(l, api.Answer{Err: err, H: h}, api.Answer{Err: err, H: h, Yes: true})
		}
	}
	return l
}

// refusesOthers holds all answers that may not be against the model.
func (q *pair) refusesOthers(who int, call api.Call, d due, l []api.Answer) {
	q.t.Helper()
	for _, a := range l {
		if !q.p.takes(d, a) && q.m.Does(who, call, a) {
			q.t.Fatalf("behind %+v: Does(%d, %+v, %+v): true", q.p.log, who, call, a)
		}
	}
}

// answer is how a call is answered: ErrFull at times, where it may be.
func (q *pair) answer(seed *uint64, d due) api.Answer {
	if d.full && draw(seed, 5) == 0 {
		return only(api.ErrFull)
	}
	if d.gives {
		q.last += uint64(1 + draw(seed, 2))
		return gives(q.last)
	}
	return d.a
}

// goesOn has a call be done by both, and tells what it was answered.
func (q *pair) goesOn(seed *uint64) (api.Call, api.Answer) {
	q.t.Helper()
	who := draw(seed, q.c.Clients)
	call := q.call(seed, who)
	d := q.p.due(who, call)
	q.refusesOthers(who, call, d, q.some(seed, call))
	a := q.answer(seed, d)
	if !q.m.Does(who, call, a) {
		q.t.Fatalf("behind %+v: Does(%d, %+v, %+v): false", q.p.log, who, call, a)
	}
	q.p.done(who, call, d, a)
	if a.H != 0 {
		q.given = append(q.given, a.H)
	}
	q.nodes = len(q.p.arities())
	return call, a
}

// matches holds all that is told against the plain telling.
func (q *pair) matches() {
	q.t.Helper()
	for who := range q.c.Clients {
		q.held(who, q.p.held(who))
		for _, h := range append([]uint64{0, 3}, q.given...) {
			q.node(who, h, q.p.holds(who, h))
		}
	}
	for node, arity := range q.p.arities() {
		for i := range q.c.Arity + 1 {
			want := none
			if i < arity {
				want = q.p.field(node, i, len(q.p.log))
			}
			if got := q.m.Field(node, i); got != want {
				q.t.Fatalf("behind %+v: Field(%d, %d): %d, want %d", q.p.log, node, i, got, want)
			}
		}
	}
}

// drawnConfigs are those that calls are drawn for.
func drawnConfigs() []api.Config {
	return []api.Config{config(0, 1, 2), config(1, 1, 3), config(2, 2, 4), config(3, 3, 6), config(2, 1, 16), config(8, 8, 2)}
}

// happened is a kind of call, with how it was answered.
type happened struct {
	kind     int
	err      api.Errno
	has, yes bool
}

// all are the ways in which calls can be answered.
func all() []happened {
	l := []happened{{kind: 0, err: api.ErrOp}, {kind: 11, err: api.ErrOp}}
	for kind, errs := range map[int][]api.Errno{
		api.New:     {api.ErrArg, api.ErrRoom, api.ErrFull},
		api.Load:    {api.OK, api.ErrHandle, api.ErrField, api.ErrRoom},
		api.Link:    {api.OK, api.ErrHandle, api.ErrField, api.ErrFull},
		api.Unlink:  {api.OK, api.ErrHandle, api.ErrField, api.ErrFull},
		api.Swap:    {api.OK, api.ErrHandle, api.ErrField, api.ErrFull},
		api.Release: {api.OK, api.ErrHandle},
		api.Same:    {api.OK, api.ErrHandle},
		api.Open:    {api.ErrHandle, api.ErrOpen},
		api.Next:    {api.ErrDone, api.ErrRoom},
		api.Close:   {api.OK, api.ErrDone},
	} {
		for _, err := range errs {
			l = append(l, happened{kind: kind, err: err})
		}
	}
	for _, kind := range []int{api.New, api.Load, api.Open, api.Next} {
		l = append(l, happened{kind: kind, has: true})
	}
	return append(l, happened{kind: api.Swap, yes: true}, happened{kind: api.Same, yes: true})
}

// P17.1 to P17.4: many calls that are drawn, each with all answers that may not be, and one that may, against the plain telling; and copies that go on beside one another.
func TestDrawnCalls(t *testing.T) {
	met := map[happened]int{}
	for n := range 60 {
		seed := uint64(n)
		pairs := []*pair{newPair(t, drawnConfigs()[n%6])}
		for range 400 {
			i := draw(&seed, len(pairs))
			call, a := pairs[i].goesOn(&seed)
			met[happened{call.Kind, a.Err, a.H != 0, a.Yes}]++
			pairs[i].matches()
			pairs[draw(&seed, len(pairs))].matches()
			if draw(&seed, 60) == 0 {
				pairs = append(pairs, pairs[i].copied())
			}
		}
		for _, q := range pairs {
			q.matches()
		}
	}
	for _, h := range all() {
		if met[h] < 20 {
			t.Errorf("%+v happened %d times", h, met[h])
		}
	}
}

// universe is every call by some numbers and some handles.
func universe(arity int, handles []uint64) []api.Call {
	l := []api.Call{{}, {Kind: 11}}
	for n := -1; n <= arity+1; n++ {
		l = append(l, makes(n))
		for _, h := range handles {
			l = append(l, load(h, n), unlink(h, n))
			for _, x := range handles {
				l = append(l, link(h, n, x))
				for _, y := range handles {
					l = append(l, swap(h, n, x, y))
				}
			}
		}
	}
	for _, h := range handles {
		l = append(l, release(h), opens(h), next(h), closes(h))
		for _, x := range handles {
			l = append(l, same(h, x))
		}
	}
	return l
}

// P17.2: behind beginnings that are drawn, each call there is, by each client, with all its answers; and then what a copy tells, to which it was done.
func TestEachCall(t *testing.T) {
	for n := range 30 {
		seed := uint64(1000 + n)
		q := newPair(t, drawnConfigs()[1+n%2])
		for range 4 + n {
			q.goesOn(&seed)
		}
		handles := []uint64{0, 3}
		for range 4 {
			if h := q.handle(&seed, 0); !slices.Contains(handles, h) {
				handles = append(handles, h)
			}
		}
		if opened := q.p.walk(0); opened >= 0 {
			handles = append(handles, q.p.log[opened].a.H)
		}
		for who := range q.c.Clients {
			for _, call := range universe(q.c.Arity, handles) {
				q.eachAnswer(&seed, who, call)
			}
		}
		q.matches()
	}
}

// eachAnswer has a call be answered in all ways: those that may be by copies.
func (q *pair) eachAnswer(seed *uint64, who int, call api.Call) {
	q.t.Helper()
	d := q.p.due(who, call)
	l := q.some(seed, call)
	q.refusesOthers(who, call, d, l)
	for _, a := range l {
		if !q.p.takes(d, a) {
			continue
		}
		k := q.copied()
		if !k.m.Does(who, call, a) {
			q.t.Fatalf("behind %+v: Does(%d, %+v, %+v): false", q.p.log, who, call, a)
		}
		k.p.done(who, call, d, a)
		if a.H != 0 {
			k.given = append(k.given, a.H)
		}
		k.matches()
	}
}
