package lin_test

import (
	"slices"
	"testing"

	"withy/api"
	"withy/lin"
)

// scene is what two clients did, one behind the other, of an arity of 1 and with two handles each.
func scene() (api.Config, []api.Event) {
	return config(1, 2, 2), history(
		did(0, 10, 19, makes(1), gives(7)),
		did(1, 20, 29, load(7, 0), only(api.ErrHandle)),
		did(0, 30, 39, link(7, 0, 7), full),
		did(0, 40, 49, link(7, 0, 7), ok),
		did(0, 50, 59, load(7, 0), gives(8)),
		did(0, 60, 69, load(7, 0), only(api.ErrRoom)),
		did(1, 70, 79, makes(2), only(api.ErrArg)),
		did(0, 80, 89, unlink(8, 0), ok),
		did(0, 90, 99, load(7, 0), ok),
		did(1, 100, 109, makes(0), gives(9)),
		did(0, 110, 119, swap(8, 0, 7, 0), yes),
		did(0, 120, 129, release(8), ok),
		did(0, 130, 139, load(8, 0), only(api.ErrHandle)),
	)
}

// P19.1, P19.2: the document's example.
func TestExample(t *testing.T) {
	c := config(1, 2, 3)
	l := history(did(0, 1, 5, makes(1), gives(7)), did(1, 2, 3, load(7, 0), only(api.ErrHandle)))
	points(t, c, l, true)
	finds(t, c, l, 0, 1)
	replays(t, c, l, []int{0, 1}, 2)
	replays(t, c, l, []int{1, 0}, 2)
	l[1].Answer = ok
	points(t, c, l, false)
	findsNone(t, c, l, api.OK)
}

// P19.1: of what was done one behind the other each beginning is taken whole.
func TestReplayOfBeginnings(t *testing.T) {
	c, l := scene()
	for n := range len(l) + 1 {
		replays(t, c, l, upTo(len(l))[:n], n)
		points(t, c, l[:n], true)
	}
}

// P19.1: up to the first one that isn't taken, whatever comes behind; each event is spoilt in its turn.
func TestReplayUpToWhatIsNotTaken(t *testing.T) {
	for n := range 13 {
		for _, a := range []api.Answer{only(api.ErrLong), only(api.ErrOp), {Err: api.ErrArg, H: 50}, {H: 50, Yes: true}} {
			c, l := scene()
			l[n].Answer = a
			replays(t, c, l, upTo(len(l)), n)
			replays(t, c, l, upTo(n), n)
			replays(t, c, l, append(upTo(n+1), 0, 1, 6, 6), n)
			points(t, c, l, false)
			points(t, c, l[:n], true)
		}
	}
}

// P19.1: an order that names some alone, in another order, or some more than once: each is done as things are then.
func TestReplayOfAnyOrder(t *testing.T) {
	c, l := scene()
	for _, x := range []struct {
		order []int
		want  int
	}{
		{[]int{1, 6, 12}, 3},
		{[]int{0, 0}, 1},
		{[]int{0, 1, 1, 6, 6, 1}, 6},
		{[]int{6, 1, 9, 6, 0, 3, 2, 4, 5, 5}, 10},
		{[]int{2, 0}, 0},
		{[]int{0, 2, 2, 4}, 3},
		{[]int{0, 3, 3, 4, 4}, 4},
		{[]int{0, 8, 3, 8}, 3},
		{[]int{9, 0, 3, 4, 10, 7, 10, 11, 12, 11}, 4},
		{[]int{9, 0, 3, 4, 7, 10, 10}, 6},
		{[]int{12, 0, 12}, 3},
	} {
		replays(t, c, l, x.order, x.want)
	}
}

// P19.1: up to the first number that is no event's: below 0 and beyond, at each place.
func TestReplayUpToNoNumber(t *testing.T) {
	c, l := scene()
	for _, i := range noNumbers(len(l)) {
		for n := range len(l) + 1 {
			order := append(append(upTo(n), i), upTo(len(l))[n:]...)
			replays(t, c, l, order, n)
			replays(t, c, l, order[:n+1], n)
		}
		replays(t, c, nil, []int{i, i}, 0)
	}
	for n := range l {
		replays(t, c, l[:n], upTo(len(l)), n)
	}
}

// P19.1: an order without numbers, of whatever history, is nothing to be taken.
func TestReplayOfNothing(t *testing.T) {
	c, l := scene()
	for _, l := range [][]api.Event{nil, {}, l, {never(0, 1, 1)}} {
		replays(t, c, l, nil, 0)
		replays(t, c, l, []int{}, 0)
	}
	replays(t, c, nil, []int{0}, 0)
	replays(t, c, []api.Event{}, []int{0, 1}, 0)
}

// P19.1: no event's times, nor its number, are asked by a Replay.
func TestReplayAsksNoTimes(t *testing.T) {
	c, l := scene()
	for i := range l {
		l[i].Op, l[i].Begun, l[i].Point, l[i].Ended, l[i].Behind = 3, 90-i, i*i%7, -i, i%2 == 0
	}
	replays(t, c, l, upTo(len(l)), len(l))
	points(t, c, l, false)
}

// P19.1: what a client may be answered hangs on the config: how many clients, handles and fields there are.
func TestReplayByConfigs(t *testing.T) {
	_, l := scene()
	all := upTo(len(l))
	replays(t, config(1, 1, 2), l, all, 1)
	replays(t, config(1, 2, 1), l, all, 4)
	replays(t, config(1, 2, 3), l, all, 5)
	replays(t, config(2, 2, 2), l, all, 6)
	replays(t, config(0, 2, 2), l, all, 0)
	for _, c := range []api.Config{{Slots: 64, Arity: 1, Clients: 2, Handles: 2, Gens: 9, Stack: 64}, config(1, 8, 2)} {
		replays(t, c, l, all, len(l))
		points(t, c, l, true)
	}
}

// P19.1: a config that isn't right has no model: nothing is taken by none, of a history in which nothing was called, too.
func TestWrongConfigs(t *testing.T) {
	_, l := scene()
	for _, c := range wrongConfigs() {
		for _, l := range [][]api.Event{l, l[:1], {naught(0, 1, 1)}, nil, {}} {
			for _, order := range [][]int{upTo(len(l)), {0}, {0, 0}, {-1}, nil, {}} {
				replays(t, c, l, order, 0)
			}
			points(t, c, l, false)
			findsNone(t, c, l, api.ErrArg)
		}
	}
}

// Rules 4 and 6: what is handed in stays as it is, the spare room of it, too; and the same is told again.
func TestWhatIsHandedIn(t *testing.T) {
	c, room := scene()
	was := slices.Clone(room)
	numbers := append(upTo(13), 99, 98)
	for n := range 8 {
		for range 2 {
			l := room[:n]
			replays(t, c, l, numbers[:n], n)
			points(t, c, l, true)
			finds(t, c, l, upTo(n)...)
			order, _, _ := lin.Search(c, l)
			for i := range order {
				order[i] = 77
			}
		}
	}
	findsNone(t, c, room, api.ErrLong)
	if !slices.Equal(room, was) || !slices.Equal(numbers, append(upTo(13), 99, 98)) {
		t.Error("what was handed in was changed")
	}
}
