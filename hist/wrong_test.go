package hist_test

import (
	"slices"
	"testing"

	"withy/api"
	"withy/hist"
)

// P18.2: of nothing that was called there is nothing to be put in order.
func TestNothing(t *testing.T) {
	for _, l := range [][]api.Event{nil, {}} {
		ordered(t, l)
		right(t, l, 1, true)
	}
	ordered(t, []api.Event{{}}, 0)
	right(t, []api.Event{{}}, 1, true)
}

// Rule 4: what is handed in stays as it is, the spare room of it, too; what is answered is new each time.
func TestWhatIsHandedIn(t *testing.T) {
	seed := uint64(6)
	room := append(spread(&seed, 3, 12), drawn(&seed, 6)...)
	was := slices.Clone(room)
	numbers := []int{11, 3, 0, 2, 1, 4, 10, 9, 8, 7, 6, 5, 77, 78}
	wasNumbers := slices.Clone(numbers)
	for n := range 12 {
		l := room[:n]
		hist.Right(l, 3)
		order := hist.Order(l)
		hist.Respects(l, order)
		hist.Respects(l, numbers[:n])
		hist.Respects(room[:12], numbers[:12])
		again := hist.Order(l)
		for i := range again {
			again[i] = -1
		}
		if !slices.Equal(order, plainOrder(l)) || !slices.Equal(hist.Order(l), order) {
			t.Fatalf("Order(%+v): %v, and then %v", l, order, hist.Order(l))
		}
	}
	if !slices.Equal(room, was) || !slices.Equal(numbers, wasNumbers) {
		t.Error("what was handed in was changed")
	}
}

// P18.1 to P18.3: a long history, of which not all pairs can be held against one another.
func TestLongOnes(t *testing.T) {
	const n = 1 << 18
	l := make([]api.Event, n)
	for i := range l {
		at := (i * 40503) % n
		l[i] = event(at%8, at/8, 10*at, 10*at+5, 10*at+20)
	}
	right(t, l, 8, true)
	right(t, l, 7, false)
	order := hist.Order(l)
	for at, i := range order {
		if l[i].Op*8+l[i].Client != at {
			t.Fatalf("Order: %d stands at %d", i, at)
		}
	}
	respects(t, l, order, true)
	order[0], order[n-1] = order[n-1], order[0]
	respects(t, l, order, false)
	l[n/2].Op++
	right(t, l, 8, false)
}
