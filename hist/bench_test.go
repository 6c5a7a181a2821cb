package hist_test

import (
	"math"
	"slices"
	"testing"

	"withy/api"
	"withy/hist"
)

// event is one of a client, that began, took effect and ended then.
func event(who, op, begun, point, ended int) api.Event {
	return api.Event{Client: who, Op: op, Begun: begun, Point: point, Ended: ended}
}

// behind is an event that took effect behind all else of its point.
func behind(e api.Event) api.Event {
	e.Behind = true
	return e
}

// extremes are times, the lowest and the highest among them.
func extremes() []int {
	return []int{math.MinInt, math.MinInt + 1, -1 << 32, -2, -1, 0, 1, 2, 1 << 32, math.MaxInt - 1, math.MaxInt}
}

// noNumbers are numbers of which there is no thing, where there are n, counted from 0.
func noNumbers(n int) []int {
	return []int{math.MinInt, math.MinInt + 1, -1 << 32, -64, -2, -1, n, n + 1, n + 64, 1 << 31, 1 << 32, 1<<32 + 1, math.MaxInt - 1, math.MaxInt}
}

// draw is the next of a row of numbers that looks like no order at all, below n.
func draw(seed *uint64, n int) int {
	*seed = *seed*6364136223846793005 + 1442695040888963407
	return int(*seed>>33) % n
}

// orders are all orders of the numbers below n, those with lower numbers first.
func orders(n int) [][]int {
	if n == 0 {
		return [][]int{nil}
	}
	var l [][]int
	for first := range n {
		for _, rest := range orders(n - 1) {
			order := []int{first}
			for _, i := range rest {
				if i >= first {
					i++
				}
				order = append(order, i)
			}
			l = append(l, order)
		}
	}
	return l
}

// rows are all rows of so many numbers, of those from low to high.
func rows(length, low, high int) [][]int {
	if length == 0 {
		return [][]int{nil}
	}
	var l [][]int
	for _, row := range rows(length-1, low, high) {
		for i := low; i <= high; i++ {
			l = append(l, append(slices.Clone(row), i))
		}
	}
	return l
}

// picked are the events that an order names, one behind the other.
func picked(l []api.Event, order []int) []api.Event {
	var p []api.Event
	for _, i := range order {
		p = append(p, l[i])
	}
	return p
}

// The chapter told in another way: each thing by all pairs.

// plainRight tells whether a history is right.
func plainRight(l []api.Event, clients int) bool {
	for i, a := range l {
		if !(0 <= a.Client && a.Client < clients && a.Begun <= a.Point && a.Point <= a.Ended) {
			return false
		}
		for j, b := range l {
			if i == j || a.Client != b.Client {
				continue
			}
			if a.Op == b.Op || a.Op < b.Op && a.Ended >= b.Begun {
				return false
			}
		}
	}
	return true
}

// plainFirst tells whether an event takes effect ahead of another one, by the points; of two that are alike neither does.
func plainFirst(a, b api.Event) bool {
	switch {
	case a.Point != b.Point:
		return a.Point < b.Point
	case a.Behind != b.Behind:
		return b.Behind
	case a.Client != b.Client:
		return a.Client < b.Client
	}
	return a.Op < b.Op
}

// plainOrder is the order by points: each event stands behind as many as come ahead of it.
func plainOrder(l []api.Event) []int {
	order := make([]int, len(l))
	for i, a := range l {
		at := 0
		for j, b := range l {
			if plainFirst(b, a) || j < i && !plainFirst(a, b) {
				at++
			}
		}
		order[at] = i
	}
	return order
}

// plainRespects tells whether an order names each event once, and respects the history.
func plainRespects(l []api.Event, order []int) bool {
	for i := range l {
		if !slices.Contains(order, i) {
			return false
		}
	}
	for n, i := range order {
		if i < 0 || i >= len(l) || slices.Contains(order[:n], i) {
			return false
		}
		for _, j := range order[:n] {
			if l[i].Ended < l[j].Begun {
				return false
			}
		}
	}
	return true
}

// right holds whether a history is right against whether it should be.
func right(t *testing.T, l []api.Event, clients int, want bool) {
	t.Helper()
	if got := hist.Right(l, clients); got != want {
		t.Fatalf("Right(%+v, %d): %v", l, clients, got)
	}
}

// ordered holds the order by points against what it should be.
func ordered(t *testing.T, l []api.Event, want ...int) {
	t.Helper()
	if got := hist.Order(l); !slices.Equal(got, want) {
		t.Fatalf("Order(%+v): %v, want %v", l, got, want)
	}
}

// respects holds whether an order respects a history against whether it should.
func respects(t *testing.T, l []api.Event, order []int, want bool) {
	t.Helper()
	if got := hist.Respects(l, order); got != want {
		t.Fatalf("Respects(%+v, %v): %v", l, order, got)
	}
}
