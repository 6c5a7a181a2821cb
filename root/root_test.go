package root_test

import (
	"math"
	"testing"

	"withy/api"
	"withy/plan"
	"withy/root"
	"withy/tag"
)

// config is one with so many slots, clients and handles, and the least of all else.
func config(slots, clients, handles int) api.Config {
	return api.Config{Slots: slots, Clients: clients, Handles: handles, Gens: 1}
}

// greatest is the config with the most of everything.
func greatest() api.Config {
	return api.Config{Slots: 64, Arity: 8, Clients: 8, Handles: 16, Gens: 1 << 20, Stack: 64}
}

// configs are right ones.
func configs() []api.Config {
	return []api.Config{config(1, 1, 1), config(5, 2, 3), config(9, 3, 16), greatest()}
}

// wrongConfigs are configs in which one number is beyond its lowest or highest.
func wrongConfigs() []api.Config {
	l := []api.Config{{}}
	for _, c := range []api.Config{config(3, 1, 2), greatest()} {
		for _, n := range []struct {
			at        *int
			low, high int
		}{{&c.Slots, 1, 64}, {&c.Arity, 0, 8}, {&c.Clients, 1, 8}, {&c.Handles, 1, 16}, {&c.Gens, 1, 1 << 20}, {&c.Stack, 0, 64}} {
			was := *n.at
			for _, v := range []int{n.low - 1, n.high + 1, math.MinInt, math.MaxInt} {
				*n.at = v
				l = append(l, c)
			}
			*n.at = was
		}
	}
	return l
}

// noNumbers are numbers of which there is no thing, where there are n, counted from 0.
func noNumbers(n int) []int {
	return []int{math.MinInt, math.MinInt + 1, -1 << 32, -64, -2, -1, n, n + 1, 64, 65, 255, 256, 1 << 16, 1 << 32, 1<<32 + 1, 1 << 62, math.MaxInt - 1, math.MaxInt}
}

// made is a table that there must be.
func made(t *testing.T, c api.Config, who int, last uint64) *root.Table {
	t.Helper()
	a := root.NewTable(c, who, last)
	if a == nil {
		t.Fatalf("NewTable(%+v, %d, %d): nil", c, who, last)
	}
	return a
}

// takes has a table take a slot, and holds the entry and the handle against what they should be.
func takes(t *testing.T, a *root.Table, slot, entry int, handle uint64) {
	t.Helper()
	i, h, ok := a.Take(slot)
	if i != entry || h != handle || !ok {
		t.Fatalf("Take(%d): %d, %#x, %v, want %d, %#x, true", slot, i, h, ok, entry, handle)
	}
}

// refuses holds a Take that isn't done against what it should answer.
func refuses(t *testing.T, a *root.Table, slot int) {
	t.Helper()
	if i, h, ok := a.Take(slot); i != 0 || h != 0 || ok {
		t.Fatalf("Take(%d): %d, %#x, %v, want 0, 0, false", slot, i, h, ok)
	}
}

// finds holds what is found by a handle against what it should be.
func finds(t *testing.T, a *root.Table, h uint64, entry, slot int) {
	t.Helper()
	if i, s, ok := a.Find(h); i != entry || s != slot || !ok {
		t.Fatalf("Find(%#x): %d, %d, %v, want %d, %d, true", h, i, s, ok, entry, slot)
	}
}

// misses holds a handle by which nothing is found against what is answered then.
func misses(t *testing.T, a *root.Table, h uint64) {
	t.Helper()
	if i, s, ok := a.Find(h); i != 0 || s != 0 || ok {
		t.Fatalf("Find(%#x): %d, %d, %v, want 0, 0, false", h, i, s, ok)
	}
}

// is holds how many are held, whether there is room, and all words against what they should be.
func is(t *testing.T, a *root.Table, held int, room bool, words ...uint64) {
	t.Helper()
	if a.Held() != held || a.Room() != room {
		t.Fatalf("Held %d, Room %v, want %d, %v", a.Held(), a.Room(), held, room)
	}
	for i, w := range words {
		if a.Word(i) != w {
			t.Fatalf("Word(%d): %#x, want %#x", i, a.Word(i), w)
		}
	}
	if w := a.Word(len(words)); w != 0 {
		t.Fatalf("Word(%d), behind the last one: %#x", len(words), w)
	}
}

// P11.2: the document's example.
func TestExample(t *testing.T) {
	a := made(t, config(9, 1, 1), 0, 0)
	takes(t, a, 4, 0, 0x0100000000000001)
	is(t, a, 1, false, 0x0000000100000005)
}

// P11.1: a new table holds nothing, and has the tag at all entries.
func TestNewTables(t *testing.T) {
	for _, c := range configs() {
		for who := range c.Clients {
			for _, last := range []uint64{0, 1, 7, 1<<31 - 1, api.MaxTag - 1, api.MaxTag} {
				a := made(t, c, who, last)
				words := make([]uint64, c.Handles)
				for i := range words {
					words[i] = last << 32
				}
				is(t, a, 0, last < api.MaxTag, words...)
				for i := range c.Handles {
					if a.Drop(i) {
						t.Fatalf("Drop(%d) of a table that holds nothing: true", i)
					}
					if h, ok := tag.Handle(who, i, last); ok {
						misses(t, a, h)
					}
				}
				is(t, a, 0, last < api.MaxTag, words...)
			}
		}
	}
}

// P11.1: no tables of configs that aren't right, of clients that there are not, and of tags above MaxTag.
func TestNoTables(t *testing.T) {
	for _, c := range wrongConfigs() {
		for _, who := range []int{-1, 0, 1, 7, 8} {
			if root.NewTable(c, who, 0) != nil {
				t.Errorf("NewTable(%+v, %d, 0): a table", c, who)
			}
		}
	}
	for _, c := range configs() {
		for _, who := range noNumbers(c.Clients) {
			if root.NewTable(c, who, 0) != nil {
				t.Errorf("NewTable(%+v, %d, 0): a table", c, who)
			}
		}
		for _, last := range []uint64{api.MaxTag + 1, api.MaxTag + 2, 1 << 33, 1<<48 - 1, 1 << 63, math.MaxUint64} {
			if root.NewTable(c, 0, last) != nil {
				t.Errorf("NewTable(%+v, 0, %d): a table", c, last)
			}
		}
	}
}

// P11.1: of a nil table all is 0 and false.
func TestNilTables(t *testing.T) {
	for _, a := range []*root.Table{nil, {}} {
		is(t, a, 0, false)
		for _, n := range append(noNumbers(0), 1, 2) {
			refuses(t, a, n)
			if a.Drop(n) || a.Word(n) != 0 {
				t.Errorf("Drop(%d), Word(%d): %v, %d", n, n, a.Drop(n), a.Word(n))
			}
		}
		for _, h := range []uint64{0, 1, 0x0100000000000001, 0x01ff000000000001, math.MaxUint64} {
			misses(t, a, h)
		}
	}
}

// P11.2: entries are taken from the first on, one that was dropped ahead of those behind it, each with a tag of its own.
func TestTakeAndDrop(t *testing.T) {
	a := made(t, config(9, 2, 3), 1, 6)
	takes(t, a, 8, 0, 0x0200000000000007)
	takes(t, a, 8, 1, 0x0201000000000007)
	is(t, a, 2, true, 7<<32+9, 7<<32+9, 6<<32)
	takes(t, a, 0, 2, 0x0202000000000007)
	is(t, a, 3, false, 7<<32+9, 7<<32+9, 7<<32+1)
	refuses(t, a, 1)
	finds(t, a, 0x0202000000000007, 2, 0)
	finds(t, a, 0x0200000000000007, 0, 8)
	if !a.Drop(1) || a.Drop(1) {
		t.Fatal("Drop(1): not once")
	}
	is(t, a, 2, true, 7<<32+9, 7<<32, 7<<32+1)
	misses(t, a, 0x0201000000000007)
	takes(t, a, 3, 1, 0x0201000000000008)
	misses(t, a, 0x0201000000000007)
	finds(t, a, 0x0201000000000008, 1, 3)
	if !a.Drop(2) || !a.Drop(0) {
		t.Fatal("Drop(2), Drop(0): false")
	}
	is(t, a, 1, true, 7<<32, 8<<32+4, 7<<32)
	takes(t, a, 5, 0, 0x0200000000000008)
	takes(t, a, 6, 2, 0x0202000000000008)
	is(t, a, 3, false, 8<<32+6, 8<<32+4, 8<<32+7)
}

// P11.2: no slot, no entry: nothing is done, in a table with room and in a full one.
func TestWrongNumbers(t *testing.T) {
	for _, c := range configs() {
		a := made(t, c, c.Clients-1, 3)
		words := make([]uint64, c.Handles)
		for i := range words {
			words[i] = 3 << 32
		}
		for n := range c.Handles + 1 {
			for _, slot := range noNumbers(c.Slots) {
				refuses(t, a, slot)
			}
			for _, entry := range noNumbers(c.Handles) {
				if a.Drop(entry) || a.Word(entry) != 0 {
					t.Fatalf("%+v: Drop(%d) or Word(%d)", c, entry, entry)
				}
			}
			is(t, a, n, n < c.Handles, words...)
			if n < c.Handles {
				slot := n % c.Slots
				h, _ := tag.Handle(c.Clients-1, n, 4)
				takes(t, a, slot, n, h)
				words[n] = 4<<32 + uint64(slot) + 1
			}
		}
		refuses(t, a, 0)
		is(t, a, c.Handles, false, words...)
	}
}

// P11.2: an entry whose tag is MaxTag takes nothing any more; a table whose entries are all so has no room, though it holds nothing.
func TestUsedUp(t *testing.T) {
	a := made(t, config(9, 1, 2), 0, api.MaxTag-2)
	takes(t, a, 1, 0, 0x0100000000000000+api.MaxTag-1)
	takes(t, a, 2, 1, 0x0101000000000000+api.MaxTag-1)
	if a.Room() || !a.Drop(0) || !a.Room() {
		t.Fatal("a tag of one below MaxTag: no room")
	}
	takes(t, a, 3, 0, 0x0100000000000000+api.MaxTag)
	finds(t, a, 0x0100000000000000+api.MaxTag, 0, 3)
	is(t, a, 2, false, api.MaxTag<<32+4, (api.MaxTag-1)<<32+3)
	if !a.Drop(0) {
		t.Fatal("Drop(0): false")
	}
	is(t, a, 1, false, api.MaxTag<<32, (api.MaxTag-1)<<32+3)
	refuses(t, a, 4)
	misses(t, a, 0x0100000000000000+api.MaxTag)
	misses(t, a, 0x0100000000000000)
	if !a.Drop(1) {
		t.Fatal("Drop(1): false")
	}
	is(t, a, 0, true, api.MaxTag<<32, (api.MaxTag-1)<<32)
	takes(t, a, 4, 1, 0x0101000000000000+api.MaxTag)
	if !a.Drop(1) {
		t.Fatal("Drop(1): false")
	}
	is(t, a, 0, false, api.MaxTag<<32, api.MaxTag<<32)
	refuses(t, a, 4)

	a = made(t, config(9, 1, 3), 0, api.MaxTag)
	refuses(t, a, 0)
	is(t, a, 0, false, api.MaxTag<<32, api.MaxTag<<32, api.MaxTag<<32)
}

// P11.3: a handle of another client, of another tag, of a walk, or turned in one or two of its bits, isn't found.
func TestForgedHandles(t *testing.T) {
	for _, c := range configs() {
		for _, last := range []uint64{0, 1, 5, api.MaxTag - 1} {
			a := made(t, c, 0, last)
			right := map[uint64]int{}
			for i := range c.Handles {
				_, h, _ := a.Take(i % c.Slots)
				right[h] = i
			}
			for h, i := range right {
				finds(t, a, h, i, i%c.Slots)
				for bit := range 64 {
					forged := h ^ 1<<bit
					if n, ok := right[forged]; ok {
						finds(t, a, forged, n, n%c.Slots)
					} else {
						misses(t, a, forged)
					}
					for second := range bit {
						if _, ok := right[forged^1<<second]; !ok {
							misses(t, a, forged^1<<second)
						}
					}
				}
				for who := 1; who < 8; who++ {
					other, _ := tag.Handle(who, i, last+1)
					misses(t, a, other)
				}
				for _, other := range []uint64{last, last + 2, 0, 1, api.MaxTag} {
					if forged, ok := tag.Handle(0, i, other); ok && other != last+1 {
						misses(t, a, forged)
					}
				}
			}
			walk, _ := tag.Handle(0, 255, last+1)
			misses(t, a, walk)
			misses(t, a, 0)
			misses(t, a, last+1)
			misses(t, a, math.MaxUint64)
		}
	}
}

// P11.3: two clients' tables know nothing of one another, and no handle is one of both.
func TestTablesApart(t *testing.T) {
	c := config(9, 3, 4)
	var tables []*root.Table
	told := map[uint64]int{}
	for who := range c.Clients {
		tables = append(tables, made(t, c, who, 0))
	}
	for n := range 4 * c.Clients {
		who := n % c.Clients
		_, h, ok := tables[who].Take(n % c.Slots)
		if _, twice := told[h]; twice || !ok {
			t.Fatalf("Take: %#x, %v", h, ok)
		}
		told[h] = who
	}
	for h, who := range told {
		for other, a := range tables {
			if _, _, ok := a.Find(h); ok != (other == who) {
				t.Errorf("Find(%#x) of client %d: %v", h, other, ok)
			}
		}
	}
}

// draw is the next of a row of numbers that looks like no order at all.
func draw(seed *uint64) int {
	*seed = *seed*6364136223846793005 + 1442695040888963407
	return int(*seed >> 33)
}

// held is what a plain table of the test knows of an entry.
type held struct {
	slot   int // -1: none
	tag    uint64
	handle uint64
}

// wanted is what Take should answer, in the plain table.
func wanted(c api.Config, who int, l []held, slot int) (int, uint64, bool) {
	if slot < 0 || slot >= c.Slots {
		return 0, 0, false
	}
	for i := range l {
		if l[i].slot < 0 && l[i].tag < api.MaxTag {
			l[i].slot = slot
			l[i].tag++
			l[i].handle = uint64(who+1)<<56 + uint64(i)<<48 + l[i].tag
			return i, l[i].handle, true
		}
	}
	return 0, 0, false
}

// P11.2, P11.3: a table that takes, drops and finds, again and again, held against a plain one; no handle is told twice.
func TestAgainAndAgain(t *testing.T) {
	for seed := range uint64(40) {
		c := configs()[seed%4]
		who := int(seed) % c.Clients
		last := []uint64{0, 5, api.MaxTag - 20, api.MaxTag - 1}[seed/4%4]
		a := made(t, c, who, last)
		plain := make([]held, c.Handles)
		for i := range plain {
			plain[i] = held{slot: -1, tag: last}
		}
		told := map[uint64]int{}
		for n := range 600 {
			if draw(&seed)%2 == 0 {
				slot := draw(&seed)%(c.Slots+2) - 1
				i, h, ok := wanted(c, who, plain, slot)
				if gotI, gotH, got := a.Take(slot); gotI != i || gotH != h || got != ok {
					t.Fatalf("Take(%d): %d, %#x, %v, want %d, %#x, %v", slot, gotI, gotH, got, i, h, ok)
				}
				if _, twice := told[h]; ok && twice {
					t.Fatalf("%#x was told twice", h)
				}
				told[h] = n
			} else {
				i := draw(&seed)%(c.Handles+2) - 1
				want := i >= 0 && i < c.Handles && plain[i].slot >= 0
				if got := a.Drop(i); got != want {
					t.Fatalf("Drop(%d): %v, want %v", i, got, want)
				}
				if want {
					plain[i].slot = -1
				}
			}
			matches(t, a, plain, told)
		}
	}
}

// matches holds all that a table tells against a plain one, and against the handles that were ever told.
func matches(t *testing.T, a *root.Table, plain []held, told map[uint64]int) {
	t.Helper()
	n, room := 0, false
	words := make([]uint64, len(plain))
	right := map[uint64]int{}
	for i, e := range plain {
		words[i] = e.tag<<32 + uint64(e.slot+1)
		room = room || e.slot < 0 && e.tag < api.MaxTag
		if e.slot >= 0 {
			n++
			right[e.handle] = i
		}
	}
	is(t, a, n, room, words...)
	for h := range told {
		if i, ok := right[h]; ok {
			finds(t, a, h, i, plain[i].slot)
		} else {
			misses(t, a, h)
		}
	}
}

// Chapter 11: a table is the client's own: the words stand in the memory only once somebody stores them, at places that the plan has.
func TestWordsFitThePlan(t *testing.T) {
	c := greatest()
	m := plan.Memory(c)
	a := made(t, c, 7, 0)
	for i := range c.Handles {
		a.Take(63 - i)
		m.Store(plan.Entry(c, 7, i), a.Word(i))
		if last, slot := tag.EntryParts(m.Load(plan.Entry(c, 7, i))); last != 1 || slot != 63-i {
			t.Errorf("the entry %d: tag %d, slot %d", i, last, slot)
		}
	}
}
