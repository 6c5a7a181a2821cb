package model_test

import (
	"math"
	"slices"
	"testing"

	"withy/api"
	"withy/model"
)

// none is told where there is no node.
const none = -1

// config is one with such an arity, so many clients and handles, and the least of all else.
func config(arity, clients, handles int) api.Config {
	return api.Config{Slots: 1, Arity: arity, Clients: clients, Handles: handles, Gens: 1}
}

// greatest is the config with the most of everything.
func greatest() api.Config {
	return api.Config{Slots: 64, Arity: 8, Clients: 8, Handles: 16, Gens: 1 << 20, Stack: 64}
}

// number is one of a config's, with its lowest and its highest.
type number struct {
	at        *int
	low, high int
}

// numbers are all that a config has.
func numbers(c *api.Config) []number {
	return []number{{&c.Slots, 1, 64}, {&c.Arity, 0, 8}, {&c.Clients, 1, 8}, {&c.Handles, 1, 16}, {&c.Gens, 1, 1 << 20}, {&c.Stack, 0, 64}}
}

// configs are right ones: the least and the greatest, and some in which one number is its lowest or its highest.
func configs() []api.Config {
	l := []api.Config{config(0, 1, 1), config(1, 1, 3), greatest()}
	c := api.Config{Slots: 6, Arity: 3, Clients: 2, Handles: 3, Gens: 4, Stack: 2}
	for _, n := range numbers(&c) {
		was := *n.at
		for _, v := range []int{n.low, n.high} {
			*n.at = v
			l = append(l, c)
		}
		*n.at = was
	}
	return l
}

// wrongConfigs are configs in which one number is beyond its lowest or highest.
func wrongConfigs() []api.Config {
	l := []api.Config{{}}
	for _, c := range []api.Config{config(0, 1, 1), config(2, 2, 2), greatest()} {
		for _, n := range numbers(&c) {
			was := *n.at
			for _, v := range []int{n.low - 1, n.high + 1, math.MinInt, math.MaxInt} {
				*n.at = v
				l = append(l, c)
			}
			*n.at = was
		}
	}
	return l
}

// noNumbers are numbers of which there is no thing, where there are n, counted from 0.
func noNumbers(n int) []int {
	return []int{math.MinInt, math.MinInt + 1, -1 << 32, -64, -2, -1, n, n + 1, 64, 255, 1 << 16, 1 << 31, 1 << 32, math.MaxInt - 1, math.MaxInt}
}

// errnos are all errors, and numbers of none.
func errnos() []api.Errno {
	l := []api.Errno{math.MinInt, math.MaxInt}
	for e := api.Errno(-1); e <= api.ErrLong+1; e++ {
		l = append(l, e)
	}
	return l
}

// only is the answer that tells an error.
func only(err api.Errno) api.Answer {
	return api.Answer{Err: err}
}

// gives is the answer that gives a handle.
func gives(h uint64) api.Answer {
	return api.Answer{H: h}
}

// The calls, by their kinds.

func makes(arity int) api.Call {
	return api.Call{Kind: api.New, N: arity}
}

func load(h uint64, i int) api.Call {
	return api.Call{Kind: api.Load, N: i, H: h}
}

func link(h uint64, i int, x uint64) api.Call {
	return api.Call{Kind: api.Link, N: i, H: h, X: x}
}

func unlink(h uint64, i int) api.Call {
	return api.Call{Kind: api.Unlink, N: i, H: h}
}

func swap(h uint64, i int, x, y uint64) api.Call {
	return api.Call{Kind: api.Swap, N: i, H: h, X: x, Y: y}
}

func release(h uint64) api.Call {
	return api.Call{Kind: api.Release, H: h}
}

func same(h, x uint64) api.Call {
	return api.Call{Kind: api.Same, H: h, X: x}
}

func opens(h uint64) api.Call {
	return api.Call{Kind: api.Open, H: h}
}

func next(h uint64) api.Call {
	return api.Call{Kind: api.Next, H: h}
}

func closes(h uint64) api.Call {
	return api.Call{Kind: api.Close, H: h}
}

// The answers that give nothing.
var (
	ok  = api.Answer{}
	yes = api.Answer{Yes: true}
)

// fresh are handles that no test of a bench gives but by these.
var fresh = []uint64{1, 9001, 1 << 32, 1<<63 + 1, math.MaxUint64}

// bench is a model to which calls are answered.
type bench struct {
	t     *testing.T
	c     api.Config
	m     *model.Model
	given []uint64 // the handles that were given
	nodes int      // how many were made
}

// newBench is one in which nothing is.
func newBench(t *testing.T, c api.Config) *bench {
	t.Helper()
	m := model.New(c)
	if m == nil {
		t.Fatalf("New(%+v): nil", c)
	}
	return &bench{t: t, c: c, m: m}
}

// copied is a bench of a copy.
func (b *bench) copied() *bench {
	return &bench{t: b.t, c: b.c, m: b.m.Copy(), given: slices.Clone(b.given), nodes: b.nodes}
}

// tells is all that a model tells of its clients and nodes.
func (b *bench) tells() []int {
	var l []int
	for who := -1; who <= b.c.Clients; who++ {
		l = append(l, b.m.Held(who), b.m.Node(who, 0))
		for _, h := range append(b.given, fresh...) {
			l = append(l, b.m.Node(who, h))
		}
	}
	for node := -1; node <= b.nodes; node++ {
		for i := -1; i <= b.c.Arity; i++ {
			l = append(l, b.m.Field(node, i))
		}
	}
	return l
}

// refuses has a call not be answered so, by which nothing changes.
func (b *bench) refuses(who int, call api.Call, a api.Answer) {
	b.t.Helper()
	was := b.tells()
	if b.m.Does(who, call, a) {
		b.t.Fatalf("Does(%d, %+v, %+v): true", who, call, a)
	}
	if !slices.Equal(was, b.tells()) {
		b.t.Fatalf("Does(%d, %+v, %+v): false, but something was done", who, call, a)
	}
}

// answers are all that a call could be answered, with errors, handles of which each is none, was given, or may be given, and both of Yes.
func (b *bench) answers() []api.Answer {
	var l []api.Answer
	for _, err := range errnos() {
		for _, h := range append(append([]uint64{0}, b.given...), fresh...) {
			l = append(l, api.Answer{Err: err, H: h}, api.Answer{Err: err, H: h, Yes: true})
		}
	}
	return l
}

// others holds all answers but these against the model, which may take none of them.
func (b *bench) others(who int, call api.Call, but []api.Answer) {
	b.t.Helper()
	was := b.tells()
	for _, a := range b.answers() {
		if !slices.Contains(but, a) && b.m.Does(who, call, a) {
			b.t.Fatalf("Does(%d, %+v, %+v): true", who, call, a)
		}
	}
	if !slices.Equal(was, b.tells()) {
		b.t.Fatalf("%d, %+v: what was refused was done", who, call)
	}
}

// does has a call be answered so, and may it be answered ErrFull, too, or else not: no other answer is taken.
func (b *bench) does(who int, call api.Call, a api.Answer, full bool) {
	b.t.Helper()
	but := []api.Answer{a}
	if a.Err == api.OK && a.H != 0 {
		for _, h := range fresh {
			but = append(but, gives(h))
			if !slices.Contains(b.given, h) && !b.m.Copy().Does(who, call, gives(h)) {
				b.t.Fatalf("Does(%d, %+v, %+v): false", who, call, gives(h))
			}
		}
	}
	if full {
		but = append(but, only(api.ErrFull))
	}
	b.others(who, call, but)
	was := b.tells()
	if full && !b.m.Does(who, call, only(api.ErrFull)) {
		b.t.Fatalf("Does(%d, %+v, ErrFull): false", who, call)
	}
	if !slices.Equal(was, b.tells()) {
		b.t.Fatalf("%d, %+v: done, though ErrFull was answered", who, call)
	}
	if !b.m.Does(who, call, a) {
		b.t.Fatalf("Does(%d, %+v, %+v): false", who, call, a)
	}
	if a.Err == api.OK && a.H != 0 {
		b.given = append(b.given, a.H)
		if call.Kind == api.New {
			b.nodes++
		}
	} else if a.Err != api.OK && !slices.Equal(was, b.tells()) {
		b.t.Fatalf("Does(%d, %+v, %+v): something was done", who, call, a)
	}
}

// is has a call be answered so, and no other way.
func (b *bench) is(who int, call api.Call, a api.Answer) {
	b.t.Helper()
	b.does(who, call, a, false)
}

// orFull has a call be answered so, where ErrFull may be answered, too.
func (b *bench) orFull(who int, call api.Call, a api.Answer) {
	b.t.Helper()
	b.does(who, call, a, true)
}

// fails has a call be answered an error, and no other way.
func (b *bench) fails(who int, call api.Call, err api.Errno) {
	b.t.Helper()
	b.does(who, call, only(err), false)
}

// held holds how many handles a client holds against how many it should.
func (b *bench) held(who, want int) {
	b.t.Helper()
	if got := b.m.Held(who); got != want {
		b.t.Fatalf("Held(%d): %d, want %d", who, got, want)
	}
}

// node holds what a client holds by a handle against what it should.
func (b *bench) node(who int, h uint64, want int) {
	b.t.Helper()
	if got := b.m.Node(who, h); got != want {
		b.t.Fatalf("Node(%d, %d): %d, want %d", who, h, got, want)
	}
}

// fields holds all that a node's fields name against what they should.
func (b *bench) fields(node int, want ...int) {
	b.t.Helper()
	for i, n := range want {
		if got := b.m.Field(node, i); got != n {
			b.t.Fatalf("Field(%d, %d): %d, want %d", node, i, got, n)
		}
	}
	for _, i := range noNumbers(len(want)) {
		if got := b.m.Field(node, i); got != none {
			b.t.Fatalf("Field(%d, %d): %d, of no field", node, i, got)
		}
	}
}
