package lin_test

import (
	"slices"
	"testing"

	"withy/api"
	"withy/hist"
	"withy/lin"
	"withy/model"
)

// draw is the next of a row of numbers that looks like no order at all, below n.
func draw(seed *uint64, n int) int {
	*seed = *seed*6364136223846793005 + 1442695040888963407
	return int(*seed>>33) % n
}

// drawnCall is one of any kind, by handles of which most were given.
func drawnCall(seed *uint64, c api.Config, given []uint64) api.Call {
	handle := func() uint64 {
		if len(given) > 0 && draw(seed, 8) > 0 {
			return given[draw(seed, len(given))]
		}
		return uint64(draw(seed, 2))
	}
	kinds := []int{1, 1, 2, 2, 2, 3, 3, 3, 4, 5, 5, 6, 7, 8, 9, 9, 10, 11}
	call := api.Call{Kind: kinds[draw(seed, len(kinds))], N: draw(seed, c.Arity)}
	if call.Kind == api.New {
		call.N = c.Arity
	}
	call.H, call.X, call.Y = handle(), handle(), handle()
	return call
}

// answered is what a model may answer a call with, by which it is done.
func answered(seed *uint64, m *model.Model, who int, call api.Call, h uint64) api.Answer {
	l := []api.Answer{gives(h), ok, yes, full}
	if draw(seed, 6) == 0 {
		l = []api.Answer{full, gives(h), ok, yes}
	}
	for e := api.ErrArg; e <= api.ErrLong; e++ {
		l = append(l, only(e))
	}
	for _, a := range l {
		if m.Does(who, call, a) {
			return a
		}
	}
	return api.Answer{Err: -1}
}

// spread is a history that is right by its points, drawn: calls that a model took one behind the other, of which those of several clients overlap; they stand in no order.
func spread(seed *uint64, c api.Config, n int) []api.Event {
	m := model.New(c)
	given := make([][]uint64, c.Clients)
	last := make([]int, c.Clients) // the event of the client that stands last, and 1
	var l []api.Event
	for i := range n {
		who := draw(seed, c.Clients)
		call := drawnCall(seed, c, given[who])
		a := answered(seed, m, who, call, uint64(10+i))
		if a.H != 0 {
			given[who] = append(given[who], a.H)
		}
		point := 10 * i
		e := api.Event{Client: who, Begun: point - draw(seed, 25), Point: point, Ended: point + draw(seed, 25), Call: call, Answer: a}
		if at := last[who]; at > 0 {
			l[at-1].Ended = min(l[at-1].Ended, point-1)
			e.Begun = max(e.Begun, l[at-1].Ended+1)
		}
		l = append(l, e)
		last[who] = len(l)
	}
	history(l...)
	for i := range l {
		j := i + draw(seed, n-i)
		l[i], l[j] = l[j], l[i]
	}
	return l
}

// spoil changes something of an event: its answer, or when it was, so that events of one client may overlap, or stand in another order.
func spoil(seed *uint64, l []api.Event) {
	e, other := &l[draw(seed, len(l))], l[draw(seed, len(l))]
	switch draw(seed, 6) {
	case 0:
		e.Answer = other.Answer
	case 1:
		e.Answer = []api.Answer{ok, yes, full, only(api.ErrHandle), gives(99)}[draw(seed, 5)]
	case 2:
		e.Begun, e.Ended = e.Begun-draw(seed, 30), e.Ended+draw(seed, 30)
	case 3:
		e.Begun, e.Point, e.Ended = other.Begun, other.Point, other.Ended
	case 4:
		e.Client = other.Client
	case 5:
		for i := range l {
			l[i].Begun, l[i].Ended = l[i].Begun-30, l[i].Ended+30
		}
	}
}

// drawnConfigs are those that histories are drawn for.
func drawnConfigs() []api.Config {
	return []api.Config{config(1, 1, 2), config(1, 2, 2), config(2, 2, 4), config(2, 3, 16), config(1, 3, 1)}
}

// P19.1, P19.3: histories that are drawn to be right by their points are: a model takes them whole in this order, Search finds an order, and no order that is found comes behind this one.
func TestRightByPoints(t *testing.T) {
	seed := uint64(1)
	for n := range 3000 {
		c := drawnConfigs()[n%5]
		l := spread(&seed, c, n%9)
		points(t, c, l, true)
		byPoints := hist.Order(l)
		replays(t, c, l, byPoints, len(l))
		if len(l) > lin.MaxSearch {
			findsNone(t, c, l, api.ErrLong)
			continue
		}
		order, ok, err := lin.Search(c, l)
		if !ok || err != api.OK || slices.Compare(order, byPoints) > 0 {
			t.Fatalf("Search(%+v, %+v): %v, %v, %d; by points %v", c, l, order, ok, err, byPoints)
		}
		if !hist.Respects(l, order) || !plainWhole(c, l, order) {
			t.Fatalf("Search(%+v, %+v): %v, which isn't one", c, l, order)
		}
	}
}

// P19.2: histories that are drawn, and spoilt by some numbers, against all orders that there are: those with none, with one alone, and with several, of which the first one isn't always the one in which they stand.
func TestSearchOfDrawnOnes(t *testing.T) {
	seed := uint64(2)
	var all [8][][]int
	for n := range all {
		all[n] = orders(n)
	}
	var none, one, several, turned int
	for n := range 3000 {
		c := drawnConfigs()[n%5]
		l := spread(&seed, c, 1+n%6+n%50/49)
		for range draw(&seed, 5) {
			spoil(&seed, l)
		}
		found := plainSearch(c, l, all[len(l)])
		if len(found) == 0 {
			none++
			findsNone(t, c, l, api.OK)
			points(t, c, l, false)
			continue
		}
		finds(t, c, l, found[0]...)
		if len(found) == 1 {
			one++
		} else {
			several++
		}
		if !slices.Equal(found[0], upTo(len(l))) {
			turned++
		}
	}
	if min(none, one, several, turned) < 300 {
		t.Errorf("none %d times, one %d, several %d, turned %d", none, one, several, turned)
	}
}

// P19.1: histories that are drawn, and spoilt: they are right by their points where the history is, and a model takes all of it by them, one behind the other; as many as it takes of any order.
func TestPointsOfDrawnOnes(t *testing.T) {
	seed := uint64(3)
	var counts [2]int
	for n := range 4000 {
		c := drawnConfigs()[n%5]
		l := spread(&seed, c, 1+n%20)
		if n%3 > 0 {
			spoil(&seed, l)
		}
		want := hist.Right(l, c.Clients) && plainWhole(c, l, hist.Order(l))
		points(t, c, l, want)
		if want {
			counts[1]++
		} else {
			counts[0]++
		}
		var order []int
		for range draw(&seed, 2*len(l)) {
			order = append(order, draw(&seed, len(l)+1)-draw(&seed, 2))
		}
		replays(t, c, l, order, plainTaken(c, l, order))
		order = hist.Order(l)
		replays(t, c, l, order, plainTaken(c, l, order))
	}
	if min(counts[0], counts[1]) < 500 {
		t.Errorf("%d aren't right by their points, %d are", counts[0], counts[1])
	}
}

// plainTaken is how many a model takes: the longest beginning of the order that has none but numbers of events, and that a new model takes whole.
func plainTaken(c api.Config, l []api.Event, order []int) int {
	for n := len(order); n > 0; n-- {
		beginning := order[:n]
		named := !slices.ContainsFunc(beginning, func(i int) bool { return i < 0 || i >= len(l) })
		if named && plainWhole(c, l, beginning) {
			return n
		}
	}
	return 0
}
