package lin

import (
	"slices"

	"withy/api"
	"withy/hist"
	"withy/model"
	"withy/plan"
)

// Search looks for an order that respects a history and that a model takes.
func Search(c api.Config, l []api.Event) ([]int, bool, api.Errno) {
	if !plan.Right(c) {
		return nil, false, api.ErrArg
	}
	if len(l) > MaxSearch {
		return nil, false, api.ErrLong
	}
	order, ok := search(c, l)
	return order, ok, api.OK
}

// search goes deeper wherever an event may come next, and back where none may. Lower numbers are tried first, so that the first order that is whole is the one that comes first.
func search(c api.Config, l []api.Event) ([]int, bool) {
	var order []int
	kept := []*model.Model{model.New(c)} // what the model was ahead of each event of the order, and is behind the last one
	from := 0                            // the lowest number that wasn't tried here yet
deeper:
	if len(order) == len(l) {
		return order, true
	}
	m := kept[len(order)].Copy()
	i := next(m, l, order, from)
	if i == len(l) {
		goto back
	}
	order = append(order, i)
	kept = append(kept, m)
	from = 0
	goto deeper
back:
	if len(order) == 0 {
		return nil, false
	}
	last := len(order) - 1
	from = order[last] + 1
	order = order[:last]
	// Without spare room, what comes behind is laid in a row of its own, and the way that was left goes with the old one.
	kept = kept[: last+1 : last+1]
	goto deeper
}

// next is the lowest number, of those from one on, whose event may come behind a beginning of an order, and is taken by the model, to which it is done; as many as there are events, if there is none.
func next(m *model.Model, l []api.Event, order []int, from int) int {
	for i := from; i < len(l); i++ {
		if mayCome(l, order, i) && takes(m, l[i]) {
			return i
		}
	}
	return len(l)
}

// mayCome tells whether an event may come behind a beginning of an order: it isn't in it yet, and none of the others that aren't is ahead of it.
func mayCome(l []api.Event, order []int, i int) bool {
	if slices.Contains(order, i) {
		return false
	}
	for j, e := range l {
		if j != i && hist.Ahead(e, l[i]) && !slices.Contains(order, j) {
			return false
		}
	}
	return true
}
