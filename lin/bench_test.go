package lin_test

import (
	"math"
	"slices"
	"testing"

	"withy/api"
	"withy/hist"
	"withy/lin"
	"withy/model"
)

// config is one with such an arity, so many clients and handles, and the least of all else.
func config(arity, clients, handles int) api.Config {
	return api.Config{Slots: 1, Arity: arity, Clients: clients, Handles: handles, Gens: 1}
}

// wrongConfigs are configs in which one number is beyond its lowest or highest.
func wrongConfigs() []api.Config {
	l := []api.Config{{}}
	for _, c := range []api.Config{config(2, 2, 4), {Slots: 64, Arity: 8, Clients: 8, Handles: 16, Gens: 1 << 20, Stack: 64}} {
		for _, n := range []struct {
			at        *int
			low, high int
		}{{&c.Slots, 1, 64}, {&c.Arity, 0, 8}, {&c.Clients, 1, 8}, {&c.Handles, 1, 16}, {&c.Gens, 1, 1 << 20}, {&c.Stack, 0, 64}} {
			was := *n.at
			for _, v := range []int{n.low - 1, n.high + 1, math.MinInt, math.MaxInt} {
				*n.at = v
				l = append(l, c)
			}
			*n.at = was
		}
	}
	return l
}

// noNumbers are numbers of which there is no thing, where there are n, counted from 0.
func noNumbers(n int) []int {
	return []int{math.MinInt, math.MinInt + 1, -1 << 32, -64, -2, -1, n, n + 1, n + 64, 1 << 31, 1 << 32, 1<<32 + 1, math.MaxInt - 1, math.MaxInt}
}

// The calls, by their kinds.

func makes(arity int) api.Call {
	return api.Call{Kind: api.New, N: arity}
}

func load(h uint64, i int) api.Call {
	return api.Call{Kind: api.Load, N: i, H: h}
}

func link(h uint64, i int, x uint64) api.Call {
	return api.Call{Kind: api.Link, N: i, H: h, X: x}
}

func unlink(h uint64, i int) api.Call {
	return api.Call{Kind: api.Unlink, N: i, H: h}
}

func swap(h uint64, i int, x, y uint64) api.Call {
	return api.Call{Kind: api.Swap, N: i, H: h, X: x, Y: y}
}

func release(h uint64) api.Call {
	return api.Call{Kind: api.Release, H: h}
}

// The answers.

var (
	ok   = api.Answer{}
	yes  = api.Answer{Yes: true}
	full = api.Answer{Err: api.ErrFull}
)

// gives is the answer that gives a handle.
func gives(h uint64) api.Answer {
	return api.Answer{H: h}
}

// only is the answer that tells an error.
func only(err api.Errno) api.Answer {
	return api.Answer{Err: err}
}

// did is an event of a client, from begun to ended, which took effect at its end.
func did(who, begun, ended int, call api.Call, a api.Answer) api.Event {
	return api.Event{Client: who, Begun: begun, Point: ended, Ended: ended, Call: call, Answer: a}
}

// history numbers the operations of each client in the order in which they stand.
func history(l ...api.Event) []api.Event {
	ops := map[int]int{}
	for i, e := range l {
		l[i].Op = ops[e.Client]
		ops[e.Client]++
	}
	return l
}

// naught is an event that is taken at any time, and does nothing.
func naught(who, begun, ended int) api.Event {
	return did(who, begun, ended, api.Call{}, only(api.ErrOp))
}

// never is an event that is taken at no time.
func never(who, begun, ended int) api.Event {
	return did(who, begun, ended, api.Call{}, ok)
}

// upTo are the numbers below n.
func upTo(n int) []int {
	l := make([]int, n)
	for i := range l {
		l[i] = i
	}
	return l
}

// replays holds how many events a model takes against how many it should.
func replays(t *testing.T, c api.Config, l []api.Event, order []int, want int) {
	t.Helper()
	if got := lin.Replay(c, l, order); got != want {
		t.Fatalf("Replay(%+v, %+v, %v): %d, want %d", c, l, order, got, want)
	}
}

// points holds whether a history is right by its points against whether it should be.
func points(t *testing.T, c api.Config, l []api.Event, want bool) {
	t.Helper()
	if got := lin.Points(c, l); got != want {
		t.Fatalf("Points(%+v, %+v): %v", c, l, got)
	}
}

// finds has Search find an order.
func finds(t *testing.T, c api.Config, l []api.Event, want ...int) {
	t.Helper()
	order, ok, err := lin.Search(c, l)
	if !slices.Equal(order, want) || !ok || err != api.OK {
		t.Fatalf("Search(%+v, %+v): %v, %v, %d, want %v", c, l, order, ok, err, want)
	}
}

// findsNone has Search find no order, by an error or without one.
func findsNone(t *testing.T, c api.Config, l []api.Event, want api.Errno) {
	t.Helper()
	order, ok, err := lin.Search(c, l)
	if len(order) != 0 || ok || err != want {
		t.Fatalf("Search(%+v, %+v): %v, %v, %d, want none, and %d", c, l, order, ok, err, want)
	}
}

// The chapter told in another way: all orders, one behind the other.

// orders are all orders of the numbers below n, those with lower numbers first.
func orders(n int) [][]int {
	if n == 0 {
		return [][]int{nil}
	}
	var l [][]int
	for first := range n {
		for _, rest := range orders(n - 1) {
			order := []int{first}
			for _, i := range rest {
				if i >= first {
					i++
				}
				order = append(order, i)
			}
			l = append(l, order)
		}
	}
	return l
}

// plainWhole tells whether a new model takes all that an order names.
func plainWhole(c api.Config, l []api.Event, order []int) bool {
	m := model.New(c)
	return !slices.ContainsFunc(order, func(i int) bool { return !m.Does(l[i].Client, l[i].Call, l[i].Answer) })
}

// plainSearch is all orders that respect a history and that a model takes whole, those that come first first.
func plainSearch(c api.Config, l []api.Event, all [][]int) [][]int {
	var found [][]int
	for _, order := range all {
		if hist.Respects(l, order) && plainWhole(c, l, order) {
			found = append(found, order)
		}
	}
	return found
}
