package mem_test

import (
	"math"
	"slices"
	"testing"

	"withy/api"
	"withy/mem"
)

// beyond are places that no memory of so many words has.
func beyond(n int) []int {
	return []int{n, n + 1, api.MaxWords, api.MaxWords + 1, -1, -2, math.MinInt, math.MaxInt}
}

// same holds all that a memory tells against what it should.
func same(t *testing.T, m *mem.Mem, words []uint64, touches int, last api.Touch) {
	t.Helper()
	if got := m.Words(); !slices.Equal(got, words) {
		t.Errorf("Words: %v, want %v", got, words)
	}
	if m.Size() != len(words) || m.Touches() != touches || m.Last() != last {
		t.Errorf("Size, Touches, Last: %d, %d, %v, want %d, %d, %v", m.Size(), m.Touches(), m.Last(), len(words), touches, last)
	}
}

// P2.1: how many words a memory may have.
func TestNew(t *testing.T) {
	for _, n := range []int{0, 1, 2, 1000, api.MaxWords - 1, api.MaxWords} {
		m := mem.New(n)
		if m == nil {
			t.Fatalf("New(%d): nil", n)
		}
		same(t, m, make([]uint64, n), 0, api.Touch{})
	}
	for _, n := range []int{-1, -2, math.MinInt, api.MaxWords + 1, math.MaxInt} {
		if mem.New(n) != nil {
			t.Errorf("New(%d): a memory", n)
		}
	}
}

// P2.1: a memory of words that are given.
func TestOf(t *testing.T) {
	same(t, mem.Of([]uint64{3, 0, math.MaxUint64}), []uint64{3, 0, math.MaxUint64}, 0, api.Touch{})
	for _, l := range [][]uint64{nil, {}} {
		m := mem.Of(l)
		if m == nil {
			t.Fatal("Of no words: nil")
		}
		same(t, m, nil, 0, api.Touch{})
	}
	most := make([]uint64, api.MaxWords)
	most[api.MaxWords-1] = 9
	m := mem.Of(most)
	if m.Size() != api.MaxWords || m.Load(api.MaxWords-1) != 9 {
		t.Error("Of MaxWords words")
	}
	if mem.Of(make([]uint64, api.MaxWords+1)) != nil {
		t.Error("Of MaxWords + 1 words: a memory")
	}
}

// P2.1: what is handed in is neither changed nor kept.
func TestOfKeepsNothing(t *testing.T) {
	room := []uint64{1, 2, 3, 4}
	m := mem.Of(room[:2])
	room[0] = 77
	if m.Load(0) != 1 {
		t.Error("the memory changed with the list")
	}
	m.Store(1, 88)
	if m.Store(2, 99) || !slices.Equal(room, []uint64{77, 2, 3, 4}) {
		t.Errorf("the list changed with the memory: %v", room)
	}
}

// P2.1 and P2.2: each touch does what it says, answers it, is counted, and is the last one then.
func TestTouches(t *testing.T) {
	m := mem.Of([]uint64{0, 10, 20})
	count := 0
	check := func(name string, right bool, words []uint64, last api.Touch) {
		t.Helper()
		count++
		if !right {
			t.Errorf("%s: another answer", name)
		}
		same(t, m, words, count, last)
	}
	check("Load", m.Load(1) == 10, []uint64{0, 10, 20}, api.Touch{Kind: api.TLoad, At: 1, Was: 10, Now: 10})
	check("Load of the last word", m.Load(2) == 20, []uint64{0, 10, 20}, api.Touch{Kind: api.TLoad, At: 2, Was: 20, Now: 20})
	check("Load of the first word", m.Load(0) == 0, []uint64{0, 10, 20}, api.Touch{Kind: api.TLoad})
	check("Store", m.Store(0, 5), []uint64{5, 10, 20}, api.Touch{Kind: api.TStore, At: 0, Was: 0, Now: 5})
	check("Store of what is there", m.Store(0, 5), []uint64{5, 10, 20}, api.Touch{Kind: api.TStore, At: 0, Was: 5, Now: 5})
	check("Store at the last word", m.Store(2, 21), []uint64{5, 10, 21}, api.Touch{Kind: api.TStore, At: 2, Was: 20, Now: 21})
	check("Swap", m.Swap(1, 10, 11), []uint64{5, 11, 21}, api.Touch{Kind: api.TSwap, At: 1, Was: 10, Now: 11})
	check("Swap of another word", !m.Swap(1, 10, 12), []uint64{5, 11, 21}, api.Touch{Kind: api.TSwap, At: 1, Was: 11, Now: 11})
	check("Swap of another word for itself", !m.Swap(1, 10, 11), []uint64{5, 11, 21}, api.Touch{Kind: api.TSwap, At: 1, Was: 11, Now: 11})
	check("Swap of a word for itself", m.Swap(1, 11, 11), []uint64{5, 11, 21}, api.Touch{Kind: api.TSwap, At: 1, Was: 11, Now: 11})
	check("Swap at the last word", m.Swap(2, 21, 22), []uint64{5, 11, 22}, api.Touch{Kind: api.TSwap, At: 2, Was: 21, Now: 22})
	check("Add", m.Add(0, 3) == 8, []uint64{8, 11, 22}, api.Touch{Kind: api.TAdd, At: 0, Was: 5, Now: 8})
	check("Add of nothing", m.Add(0, 0) == 8, []uint64{8, 11, 22}, api.Touch{Kind: api.TAdd, At: 0, Was: 8, Now: 8})
	check("Add below 0", m.Add(2, ^uint64(0)) == 21, []uint64{8, 11, 21}, api.Touch{Kind: api.TAdd, At: 2, Was: 22, Now: 21})
	check("Add that wraps round to 0", m.Add(2, math.MaxUint64-20) == 0, []uint64{8, 11, 0}, api.Touch{Kind: api.TAdd, At: 2, Was: 21, Now: 0})
}

// P2.2: the document's example.
func TestExample(t *testing.T) {
	m := mem.New(2)
	if m.Add(1, 5) != 5 || !m.Swap(1, 5, 7) || m.Swap(1, 5, 9) {
		t.Error("Add, Swap, Swap: other answers")
	}
	same(t, m, []uint64{0, 7}, 3, api.Touch{Kind: api.TSwap, At: 1, Was: 7, Now: 7})
}

// touchAll does each touch at a place where none can be, and tells whether all were refused.
func touchAll(m *mem.Mem, at int) bool {
	return m.Load(at) == 0 && !m.Store(at, 1) && !m.Swap(at, 0, 1) && !m.Swap(at, 1, 0) && m.Add(at, 1) == 0
}

// P2.1 and P2.2: beyond the words nothing is done, and nothing counted.
func TestBeyond(t *testing.T) {
	for _, words := range [][]uint64{nil, {4}, {4, 5, 6}} {
		m := mem.Of(words)
		for _, at := range beyond(len(words)) {
			if !touchAll(m, at) {
				t.Errorf("%d words, at %d: something was answered", len(words), at)
			}
		}
		same(t, m, words, 0, api.Touch{})
	}
	m := mem.New(3)
	m.Store(1, 8)
	for _, at := range beyond(3) {
		touchAll(m, at)
	}
	same(t, m, []uint64{0, 8, 0}, 1, api.Touch{Kind: api.TStore, At: 1, Was: 0, Now: 8})
	most := mem.New(api.MaxWords)
	if !touchAll(most, api.MaxWords) || most.Touches() != 0 {
		t.Error("MaxWords words: something beyond them was touched")
	}
	if most.Add(api.MaxWords-1, 2) != 2 || most.Touches() != 1 {
		t.Error("MaxWords words: the last one was not touched")
	}
}

// P2.1 to P2.3: of a nil memory nothing is answered.
func TestNil(t *testing.T) {
	var m *mem.Mem
	for _, at := range append(beyond(0), 0, 1) {
		if !touchAll(m, at) {
			t.Errorf("at %d: something was answered", at)
		}
	}
	same(t, m, nil, 0, api.Touch{})
	if m.Copy() != nil {
		t.Error("Copy: a memory")
	}
}

// P2.3: the words that are answered are nobody else's, and to ask for them is no touch.
func TestWords(t *testing.T) {
	m := mem.Of([]uint64{1, 2})
	l := m.Words()
	l[0] = 99
	_ = append(l, 98)
	same(t, m, []uint64{1, 2}, 0, api.Touch{})
	m.Store(1, 7)
	if l[1] != 2 {
		t.Error("an earlier answer changed with the memory")
	}
}

// P2.3: a copy is as the memory was, and goes its own way.
func TestCopy(t *testing.T) {
	m := mem.New(2)
	m.Store(0, 3)
	m.Add(1, 4)
	last := api.Touch{Kind: api.TAdd, At: 1, Was: 0, Now: 4}
	c := m.Copy()
	same(t, c, []uint64{3, 4}, 2, last)
	c.Store(0, 30)
	same(t, m, []uint64{3, 4}, 2, last)
	m.Load(0)
	m.Swap(1, 4, 40)
	same(t, c, []uint64{30, 4}, 3, api.Touch{Kind: api.TStore, At: 0, Was: 3, Now: 30})
	same(t, m, []uint64{3, 40}, 4, api.Touch{Kind: api.TSwap, At: 1, Was: 4, Now: 40})
	empty := mem.New(0).Copy()
	if empty == nil {
		t.Fatal("Copy of a memory without words: nil")
	}
	same(t, empty, nil, 0, api.Touch{})
}

// mover is a machine: it loads a word, and adds it to the next one.
type mover struct {
	at, done int
	v        uint64
}

func (k *mover) Step(m *mem.Mem) bool {
	switch k.done {
	case 0:
		k.v = m.Load(k.at)
	case 1:
		m.Add(k.at+1, k.v)
	default:
		return true
	}
	k.done++
	return k.done == 2
}

// idler is a machine that has nothing to do.
type idler struct{}

func (idler) Step(*mem.Mem) bool { return true }

// P2.4: a machine goes by one touch at most a step, tells when it is done, and does nothing then.
func TestMachine(t *testing.T) {
	m := mem.Of([]uint64{2, 3, 5})
	for _, k := range []mem.Machine{&mover{at: 0}, &mover{at: 1}, idler{}} {
		for done := false; !done; {
			was := m.Touches()
			done = k.Step(m)
			if m.Touches() > was+1 {
				t.Fatalf("%T: %d touches in one step", k, m.Touches()-was)
			}
		}
		was := m.Copy()
		if !k.Step(m) {
			t.Errorf("%T: is done, and then isn't", k)
		}
		same(t, m, was.Words(), was.Touches(), was.Last())
		if !k.Step(nil) {
			t.Errorf("%T: isn't done in a nil memory", k)
		}
	}
	same(t, m, []uint64{2, 5, 10}, 4, api.Touch{Kind: api.TAdd, At: 2, Was: 5, Now: 10})
}
