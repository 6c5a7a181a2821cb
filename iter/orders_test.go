package iter_test

import (
	"cmp"
	"slices"
	"testing"

	"withy/api"
	"withy/field"
	"withy/iter"
	"withy/mem"
)

// wrote is a record that was laid.
type wrote struct{ node, i, rec, val int }

// writer lays records on fields, one behind the other.
type writer struct {
	lay *field.Lay
	did wrote
}

// walker turns the clock, and walks from a start on.
type walker struct {
	start int
	turn  *field.Turn
	walk  *iter.Walk
	met   []int
	over  bool
}

// scene is a memory of nodes, with writers and walkers.
type scene struct {
	*bench
	nodes, arity int
	fresh        int // the next slot that a record can be made of
	writers      []*writer
	walkers      []*walker
	wrote        []wrote
}

// newScene has so many nodes, without anything in their fields; all other slots are for records.
func newScene(t *testing.T, nodes, arity, writers, walkers int, seed *uint64) *scene {
	f := &scene{bench: newBench(t, config(64, arity)), nodes: nodes, arity: arity, fresh: nodes}
	for slot := range nodes {
		f.heads(slot, api.Header{Kind: api.Node, Arity: arity})
	}
	for range writers {
		f.writers = append(f.writers, &writer{})
	}
	for range walkers {
		f.walkers = append(f.walkers, &walker{start: draw(seed, nodes)})
	}
	return f
}

// takes has a machine take a step, of one touch at most, at the next time.
func (f *scene) takes(s mem.Machine) bool {
	f.b.Now++
	before := f.m.Touches()
	done := s.Step(f.m)
	if n := f.m.Touches() - before; n != 1 {
		f.t.Helper()
		f.t.Fatalf("%d touches in one step", n)
	}
	return done
}

// writes has a writer go on; it is none's turn where all slots are used.
func (f *scene) writes(w *writer, seed *uint64) {
	if w.lay == nil {
		if f.fresh == f.c.Slots {
			return
		}
		w.did = wrote{draw(seed, f.nodes), draw(seed, f.arity), f.fresh, draw(seed, f.nodes+1) - 1}
		f.fresh++
		w.lay = f.lay(w.did.node, w.did.i, w.did.rec, w.did.val)
	}
	if f.takes(w.lay) {
		f.wrote = append(f.wrote, w.did)
		w.lay = nil
	}
}

// walks has a walker go on.
func (f *scene) walks(w *walker) {
	switch {
	case w.turn == nil:
		w.turn = field.NewTurn(f.c, f.b)
		f.takes(w.turn)
	case w.walk == nil:
		if f.takes(w.turn) {
			w.walk = f.walk(w.start, w.turn.View)
		}
	case w.walk.Left() == 0:
		w.over = true
	case f.takes(w.walk):
		w.met = append(w.met, w.walk.Go())
	}
}

// named is what the fields of all nodes had at a time, by the points of the records.
func (f *scene) named(point int) map[[2]int]int {
	l := slices.Clone(f.wrote)
	slices.SortFunc(l, func(a, b wrote) int { return cmp.Compare(f.b.Born(a.rec), f.b.Born(b.rec)) })
	fields := map[[2]int]int{}
	for _, w := range l {
		if f.b.Born(w.rec) < point {
			fields[[2]int{w.node, w.i}] = w.val
		}
	}
	return fields
}

// check: P20.3: a walk came to just what could be reached at its view's point, in order, each once.
func (f *scene) check(w *walker) {
	fields := f.named(w.turn.Point)
	row := []int{w.start}
	for i := 0; i < len(row); i++ {
		for j := range f.arity {
			val, ok := fields[[2]int{row[i], j}]
			if ok && val != none && !slices.Contains(row, val) {
				row = append(row, val)
			}
		}
	}
	if !slices.Equal(w.met, row) {
		f.t.Helper()
		f.t.Fatalf("from %d on the walk came to %v, want %v", w.start, w.met, row)
	}
}

// P20.3: walks while others write on the same fields, in many orders of all steps.
func TestManyOrders(t *testing.T) {
	seed := uint64(3)
	lengths := map[int]int{}
	for n := range 3000 {
		f := newScene(t, 3+n%9, 1+n%3, 1+n%4, 1+n%3, &seed)
		for range draw(&seed, 200) { // what is there ahead of the walks
			f.writes(f.writers[draw(&seed, len(f.writers))], &seed)
		}
		who, calm := 0, []int{1, 2, 8}[draw(&seed, 3)]
		for busy := len(f.walkers); busy > 0; {
			if draw(&seed, calm) == 0 {
				who = draw(&seed, len(f.writers)+len(f.walkers))
			}
			if who < len(f.writers) {
				f.writes(f.writers[who], &seed)
				who = draw(&seed, len(f.writers)+len(f.walkers))
				continue
			}
			w := f.walkers[who-len(f.writers)]
			if !w.over {
				f.walks(w)
			} else {
				who = draw(&seed, len(f.writers)+len(f.walkers))
			}
			busy = 0
			for _, w := range f.walkers {
				if !w.over {
					busy++
				}
			}
		}
		for _, w := range f.writers {
			for w.lay != nil {
				f.writes(w, &seed)
			}
		}
		for _, w := range f.walkers {
			f.check(w)
			lengths[len(w.met)]++
		}
	}
	if len(lengths) < 8 || lengths[1] > 4000 {
		t.Errorf("too few long walks: %v", lengths)
	}
}
