package model_test

import (
	"math"
	"slices"
	"testing"

	"withy/api"
	"withy/model"
)

// P17.1: no model of a config that isn't right; of right ones there is one.
func TestConfigs(t *testing.T) {
	for _, c := range wrongConfigs() {
		if model.New(c) != nil {
			t.Errorf("New(%+v): a model", c)
		}
	}
	for _, c := range configs() {
		newBench(t, c)
	}
}

// calls are one of each kind, and some of kinds that are none, by one handle.
func calls(h uint64) []api.Call {
	return []api.Call{makes(0), makes(-1), load(h, 0), link(h, 0, h), unlink(h, 0), swap(h, 0, h, h), swap(h, 0, 0, 0), release(h), same(h, h), opens(h), next(h), closes(h), {}, {Kind: 11}, {Kind: -1, H: h}}
}

// P17.1, P17.3: of a nil model nothing is answered; nobody holds anything, and no field names any. (Rule 5: one that no maker made does no harm.)
func TestNil(t *testing.T) {
	for _, m := range []*model.Model{nil, model.New(api.Config{}), {}, (&model.Model{}).Copy()} {
		for _, who := range append(noNumbers(0), 1, 2, 7) {
			for _, h := range []uint64{0, 1, 5, math.MaxUint64} {
				for _, call := range calls(h) {
					for _, err := range errnos() {
						if m.Does(who, call, only(err)) || m.Does(who, call, api.Answer{Err: err, H: 5, Yes: true}) {
							t.Fatalf("Does(%d, %+v, %d): true", who, call, err)
						}
					}
					if m.Does(who, call, gives(h)) || m.Does(who, call, yes) {
						t.Fatalf("Does(%d, %+v, ..): true", who, call)
					}
				}
				if got := m.Node(who, h); got != none {
					t.Fatalf("Node(%d, %d): %d", who, h, got)
				}
			}
			if got := m.Held(who); got != 0 {
				t.Fatalf("Held(%d): %d", who, got)
			}
			for _, i := range append(noNumbers(0), 1) {
				if got := m.Field(who, i); got != none {
					t.Fatalf("Field(%d, %d): %d", who, i, got)
				}
			}
		}
	}
}

// P17.1, P17.3: no client may be answered anything, and holds anything: below 0, and as many as there are.
func TestNoClients(t *testing.T) {
	for _, clients := range []int{1, 2, 8} {
		b := newBench(t, config(1, clients, 4))
		for who := range clients {
			b.orFull(who, makes(1), gives(uint64(20+who)))
			b.is(who, opens(uint64(20+who)), gives(uint64(40+who)))
		}
		for _, who := range noNumbers(clients) {
			b.held(who, 0)
			for _, h := range []uint64{0, 20, 40, 20 + uint64(clients-1), 60} {
				b.node(who, h, none)
				for _, call := range calls(h) {
					b.others(who, call, nil)
				}
			}
		}
	}
}

// P17.2: kinds that are none are answered ErrOp, whatever stands beside, by whomever; and nothing else is.
func TestNoKinds(t *testing.T) {
	b := newBench(t, config(1, 2, 1))
	for range 2 {
		for _, kind := range append(noNumbers(11), 0) {
			for who := range 2 {
				b.fails(who, api.Call{Kind: kind}, api.ErrOp)
				b.fails(who, api.Call{Kind: kind, N: -9, H: 77, X: 5, Y: 9}, api.ErrOp)
				b.fails(who, api.Call{Kind: kind, N: 0, H: 5, X: 5, Y: 5}, api.ErrOp)
			}
		}
		if b.nodes == 0 {
			b.orFull(0, makes(1), gives(5))
			b.is(0, opens(5), gives(9))
		}
	}
}

// P17.3: Field of no node, and of no field: -1.
func TestNoNodes(t *testing.T) {
	b := newBench(t, config(2, 1, 4))
	for n := range 3 {
		for _, node := range noNumbers(n) {
			b.fields(node)
			for _, i := range []int{0, 1, 2} {
				if got := b.m.Field(node, i); got != none {
					t.Errorf("Field(%d, %d): %d", node, i, got)
				}
			}
		}
		h := uint64(20 + n)
		b.orFull(0, makes(2), gives(h))
		b.orFull(0, link(h, 0, h), ok)
		b.orFull(0, link(h, 1, 20), ok)
		b.fields(n, n, 0)
	}
}

// P17.2: numbers of no error are answers to no call, and neither are errors that no call of a kind has.
func TestNoErrors(t *testing.T) {
	b := newBench(t, config(1, 1, 2))
	b.orFull(0, makes(1), gives(5))
	for _, err := range []api.Errno{math.MinInt, -1, api.ErrForm, api.ErrLong, 11, 1 << 32, math.MaxInt} {
		for _, h := range []uint64{0, 5, 6} {
			for _, call := range calls(h) {
				b.refuses(0, call, only(err))
				b.refuses(0, call, api.Answer{Err: err, H: 6})
			}
		}
	}
}

// P17.2: ErrFull is never answered to what writes nothing, makes nothing, or is refused.
func TestNeverFull(t *testing.T) {
	b := newBench(t, config(1, 1, 2))
	b.orFull(0, makes(1), gives(5))
	b.orFull(0, link(5, 0, 5), ok)
	full := only(api.ErrFull)
	for _, call := range []api.Call{load(5, 0), same(5, 5), opens(5), release(5), next(9), closes(9), swap(5, 0, 0, 0), swap(5, 0, 5, 0), makes(2), makes(-1), load(5, 1), link(5, 1, 5), unlink(5, -1), swap(5, 1, 5, 5), link(6, 0, 5), link(5, 0, 6), unlink(6, 0), swap(6, 0, 5, 5), swap(5, 0, 6, 5), swap(5, 0, 5, 6), {}, {Kind: 11}} {
		b.refuses(0, call, full)
	}
	b.is(0, opens(5), gives(9))
	b.refuses(0, next(9), full)
	b.is(0, next(9), gives(6))
	b.refuses(0, next(9), full)
	b.refuses(0, makes(1), full)
	b.refuses(0, closes(9), full)
	b.held(0, 2)
}

// P17.2: fields of an answer that must be 0 aren't anything else: H and Yes beside errors, H where none is given, Yes where none is asked.
func TestAnswersBeside(t *testing.T) {
	b := newBench(t, config(1, 1, 2))
	for _, call := range calls(5) {
		b.refuses(0, call, api.Answer{Err: api.ErrFull, H: 6})
		b.refuses(0, call, api.Answer{Err: api.ErrFull, Yes: true})
		b.refuses(0, call, api.Answer{H: 6, Yes: true})
	}
	b.orFull(0, makes(1), gives(5))
	for _, call := range calls(5) {
		b.refuses(0, call, api.Answer{H: 6, Yes: true})
		for _, err := range errnos() {
			if err != api.OK {
				b.refuses(0, call, api.Answer{Err: err, H: 6})
				b.refuses(0, call, api.Answer{Err: err, H: 5})
				b.refuses(0, call, api.Answer{Err: err, Yes: true})
			}
		}
	}
	for _, call := range []api.Call{link(5, 0, 5), unlink(5, 0), release(5), same(5, 5), swap(5, 0, 5, 0), load(5, 0)} {
		b.refuses(0, call, gives(5))
		b.refuses(0, call, gives(6))
	}
	for _, call := range []api.Call{makes(1), link(5, 0, 5), unlink(5, 0), release(5), opens(5), load(5, 0)} {
		b.refuses(0, call, yes)
	}
	b.is(0, opens(5), gives(9))
	b.refuses(0, closes(9), yes)
	b.refuses(0, closes(9), gives(6))
	b.refuses(0, next(9), yes)
	b.refuses(0, next(9), ok)
	b.held(0, 1)
}

// Rule 6: two models to which the same is done tell the same.
func TestTheSameAgain(t *testing.T) {
	a, _ := twins(t)
	b, _ := twins(t)
	if !slices.Equal(a.tells(), b.tells()) {
		t.Errorf("%v, and %v", a.tells(), b.tells())
	}
	a.walks(9, 1, 2)
	b.walks(9, 1, 2)
}
