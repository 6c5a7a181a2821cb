package head_test

import (
	"math"
	"testing"

	"withy/api"
	"withy/head"
	"withy/turn"
)

// epochs are two cycles and a rest, and some far ones.
func epochs() []uint64 {
	l := []uint64{0xfffe, 0xffff, 0x10000, 0x10001, 0x12345, 1<<31 - 1, 1 << 32, 1 << 63, math.MaxUint64 - 4, math.MaxUint64}
	for e := range uint64(9) {
		l = append(l, e)
	}
	return l
}

// rights are right headers: each number at its edges and within, in all combinations.
func rights() []api.Header {
	var l []api.Header
	for kind := range 5 {
		for mark := range 2 {
			for _, gray := range []bool{false, true} {
				for _, arity := range []int{0, 1, 8, 15} {
					for _, gen := range []int{0, 1, 6, 1<<20 - 1, 1<<32 - 2, 1<<32 - 1} {
						for _, stamp := range []int{0, 1, 0x1234, 1<<16 - 1} {
							l = append(l, api.Header{Kind: kind, Mark: mark, Gray: gray, Arity: arity, Gen: gen, Stamp: stamp})
						}
					}
				}
			}
		}
	}
	return l
}

// worth is a right header's word by sums of the numbers' places.
func worth(h api.Header) uint64 {
	w := uint64(h.Kind) + 8*uint64(h.Mark) + 32*uint64(h.Arity) + 65536*uint64(h.Gen) + 281474976710656*uint64(h.Stamp)
	if h.Gray {
		w += 16
	}
	return w
}

// wrongs are words that are no right header's: one of the seven bits is set, or the kind is above 4.
func wrongs() []uint64 {
	l := []uint64{math.MaxUint64, 0xfe00}
	for _, h := range []api.Header{{}, {Kind: api.Node, Arity: 2, Gen: 3}, {Kind: api.Record, Mark: 1, Gray: true}, {Kind: api.Limbo, Gray: true, Stamp: 9}, {Kind: api.Dead, Gen: 1<<32 - 1, Stamp: 1<<16 - 1}} {
		for bit := 9; bit < 16; bit++ {
			l = append(l, worth(h)|1<<bit)
		}
		for kind := uint64(5); kind < 8; kind++ {
			l = append(l, worth(h)&^7|kind)
		}
	}
	return l
}

// must is a header's word.
func must(t *testing.T, h api.Header) uint64 {
	t.Helper()
	w, ok := head.Pack(h)
	if !ok {
		t.Fatalf("Pack(%+v): no word", h)
	}
	return w
}

// inUse tells whether a header is a node's or a record's.
func inUse(h api.Header) bool {
	return h.Kind == api.Node || h.Kind == api.Record
}

// check holds an answer against what is wanted; no header means that nothing is done.
func check(t *testing.T, call string, w, got uint64, ok bool, want *api.Header) {
	t.Helper()
	if want == nil {
		if got != w || ok {
			t.Errorf("%s: %#x, %v, want the word itself %#x, false", call, got, ok, w)
		}
		return
	}
	if got != worth(*want) || !ok {
		t.Errorf("%s: %#x, %v, want %#x (%+v), true", call, got, ok, worth(*want), *want)
	}
}

// P4.1: a right header's word, and back.
func TestPackAndUnpack(t *testing.T) {
	for _, h := range rights() {
		w, ok := head.Pack(h)
		if w != worth(h) || !ok {
			t.Errorf("Pack(%+v): %#x, %v, want %#x, true", h, w, ok, worth(h))
		}
		if back, ok := head.Unpack(worth(h)); back != h || !ok {
			t.Errorf("Unpack(%#x): %+v, %v, want %+v, true", worth(h), back, ok, h)
		}
	}
	if w, ok := head.Pack(api.Header{Kind: api.Node, Mark: 1, Arity: 2, Gen: 3}); w != 1+8+2*32+3*65536 || !ok {
		t.Errorf("the document's example: %d, %v", w, ok)
	}
}

// P4.1: a header of which one number is beyond its bits, or below 0, has no word.
func TestPackWrongHeaders(t *testing.T) {
	all := api.Header{Kind: api.Dead, Mark: 1, Gray: true, Arity: 15, Gen: 1<<32 - 1, Stamp: 1<<16 - 1}
	must(t, all)
	for _, h := range []api.Header{{}, {Kind: api.Record, Arity: 3, Gen: 7}, all} {
		number := []struct {
			at    *int
			below int
		}{{&h.Kind, 5}, {&h.Mark, 2}, {&h.Arity, 16}, {&h.Gen, 1 << 32}, {&h.Stamp, 1 << 16}}
		for i, n := range number {
			was := *n.at
			for _, v := range []int{n.below, n.below + 1, 2 * n.below, 8 * n.below, 1 << 62, math.MaxInt, -1, -2, -n.below, math.MinInt, math.MinInt + 1} {
				*n.at = v
				if w, ok := head.Pack(h); w != 0 || ok {
					t.Errorf("Pack(%+v): %#x, %v, want 0, false", h, w, ok)
				}
			}
			*n.at = n.below - 1
			if w, ok := head.Pack(h); w != worth(h) || !ok {
				t.Errorf("Pack(%+v), number %d at its edge: %#x, %v", h, i, w, ok)
			}
			*n.at = was
		}
	}
}

// P4.1: of a word that is none's nothing is told.
func TestUnpackWrongWords(t *testing.T) {
	for _, w := range wrongs() {
		if h, ok := head.Unpack(w); h != (api.Header{}) || ok {
			t.Errorf("Unpack(%#x): %+v, %v, want nothing", w, h, ok)
		}
	}
}

// P4.1: every word with one or two bits set is told as its bits say, or not at all.
func TestUnpackEveryBit(t *testing.T) {
	for a := range 64 {
		for b := range 64 {
			w := uint64(1)<<a | uint64(1)<<b
			h, ok := head.Unpack(w)
			right := w&7 <= 4 && w&0xfe00 == 0
			if ok != right || ok && worth(h) != w || !ok && h != (api.Header{}) {
				t.Errorf("Unpack(%#x): %+v, %v", w, h, ok)
			}
		}
	}
}

// P4.2: what is made is a node or a record, with the epoch's mark.
func TestMade(t *testing.T) {
	for _, e := range epochs() {
		for _, kind := range []int{api.Node, api.Record} {
			for _, arity := range []int{0, 1, 8, 15} {
				for _, gen := range []int{0, 5, 1<<32 - 1} {
					want := worth(api.Header{Kind: kind, Mark: turn.Born(e), Arity: arity, Gen: gen})
					if w, ok := head.Made(kind, arity, gen, e); w != want || !ok {
						t.Errorf("Made(%d, %d, %d, %d): %#x, %v, want %#x, true", kind, arity, gen, e, w, ok, want)
					}
				}
			}
		}
	}
}

// P4.2: other kinds, and numbers that don't fit, make nothing.
func TestMadeWrong(t *testing.T) {
	table := [][3]int{
		{api.Free, 1, 1}, {api.Limbo, 1, 1}, {api.Dead, 1, 1}, {5, 1, 1}, {7, 1, 1}, {9, 1, 1}, {-1, 1, 1}, {-7, 1, 1}, {math.MaxInt, 1, 1}, {math.MinInt + 1, 1, 1},
		{api.Node, -1, 0}, {api.Node, 16, 0}, {api.Node, 17, 0}, {api.Record, math.MinInt, 0}, {api.Record, math.MaxInt, 0},
		{api.Node, 0, -1}, {api.Node, 0, 1 << 32}, {api.Record, 2, 1<<32 + 1}, {api.Record, 2, math.MinInt}, {api.Record, 2, math.MaxInt},
	}
	for _, row := range table {
		for _, e := range epochs() {
			if w, ok := head.Made(row[0], row[1], row[2], e); w != 0 || ok {
				t.Errorf("Made(%d, %d, %d, %d): %#x, %v, want 0, false", row[0], row[1], row[2], e, w, ok)
			}
		}
	}
}

// P4.3: marked is a node or a record with the black of the epoch's cycle.
func TestMarked(t *testing.T) {
	for _, h := range rights() {
		for _, e := range epochs() {
			if got, want := head.Marked(worth(h), e), inUse(h) && h.Mark == turn.Black(e); got != want {
				t.Fatalf("Marked(%+v, %d): %v, want %v", h, e, got, want)
			}
		}
	}
}

// P4.3: shaded is a node or a record that wasn't marked.
func TestShaded(t *testing.T) {
	for _, h := range rights() {
		for _, e := range epochs() {
			var want *api.Header
			if inUse(h) && h.Mark != turn.Black(e) {
				n := h
				n.Mark, n.Gray = turn.Black(e), true
				want = &n
			}
			got, ok := head.Shaded(worth(h), e)
			check(t, "Shaded", worth(h), got, ok, want)
		}
	}
}

// P4.3: blackened is what is gray.
func TestBlackened(t *testing.T) {
	for _, h := range rights() {
		var want *api.Header
		if h.Gray {
			n := h
			n.Gray = false
			want = &n
		}
		got, ok := head.Blackened(worth(h))
		check(t, "Blackened", worth(h), got, ok, want)
	}
}

// P4.3: retired is a node or a record that isn't marked; its stamp is the epoch's lowest 16 bits.
func TestRetired(t *testing.T) {
	for _, h := range rights() {
		for _, e := range epochs() {
			var want *api.Header
			if inUse(h) && h.Mark != turn.Black(e) {
				n := h
				n.Kind, n.Gray, n.Stamp = api.Limbo, false, int(e%65536)
				want = &n
			}
			got, ok := head.Retired(worth(h), e)
			check(t, "Retired", worth(h), got, ok, want)
		}
	}
}

// freed says what becomes of a header, as the document does.
func freed(h api.Header, gens int) *api.Header {
	if h.Kind != api.Limbo {
		return nil
	}
	more := int64(h.Gen) + 1
	if more >= int64(gens) || more == 1<<32 {
		h.Kind = api.Dead
		return &h
	}
	return &api.Header{Kind: api.Free, Gen: h.Gen + 1}
}

// P4.3: freed is what was in limbo: free, of the next generation, or dead.
func TestFreed(t *testing.T) {
	for _, h := range rights() {
		list := []int{math.MinInt, -1 << 32, -1, 0, 1, 2, api.MaxGens, 1<<32 - 1, 1 << 32, 1<<32 + 1, math.MaxInt}
		for d := -2; d <= 3; d++ {
			list = append(list, h.Gen+d)
		}
		for _, gens := range list {
			got, ok := head.Freed(worth(h), gens)
			check(t, "Freed", worth(h), got, ok, freed(h, gens))
		}
	}
}

// P4.3: the edges of a generation, by number.
func TestFreedEdges(t *testing.T) {
	const last = 1<<32 - 1
	table := []struct {
		gen, gens int
		kind      int
		next      int
	}{
		{0, 2, api.Free, 1}, {0, 1, api.Dead, 0}, {0, 0, api.Dead, 0}, {0, -5, api.Dead, 0}, {0, math.MinInt, api.Dead, 0},
		{6, 8, api.Free, 7}, {6, 7, api.Dead, 6}, {6, 6, api.Dead, 6},
		{last - 1, math.MaxInt, api.Free, last}, {last - 1, last, api.Dead, last - 1}, {last - 1, last + 1, api.Free, last},
		{last, math.MaxInt, api.Dead, last}, {last, last + 1, api.Dead, last}, {last, last + 2, api.Dead, last}, {last, 1, api.Dead, last},
	}
	for _, row := range table {
		old := api.Header{Kind: api.Limbo, Mark: 1, Gray: true, Arity: 3, Gen: row.gen, Stamp: 77}
		want := api.Header{Kind: api.Free, Gen: row.next}
		if row.kind == api.Dead {
			want = old
			want.Kind = api.Dead
		}
		got, ok := head.Freed(must(t, old), row.gens)
		if h, is := head.Unpack(got); h != want || !ok || !is {
			t.Errorf("Freed of gen %d, gens %d: %+v, %v, want %+v", row.gen, row.gens, h, ok, want)
		}
	}
}

// P4.3: of a word that is no right header's: the word itself, and false.
func TestWrongWordsStay(t *testing.T) {
	for _, w := range wrongs() {
		for _, e := range epochs() {
			if head.Marked(w, e) {
				t.Errorf("Marked(%#x, %d)", w, e)
			}
			got, ok := head.Shaded(w, e)
			check(t, "Shaded", w, got, ok, nil)
			got, ok = head.Retired(w, e)
			check(t, "Retired", w, got, ok, nil)
		}
		got, ok := head.Blackened(w)
		check(t, "Blackened", w, got, ok, nil)
		for _, gens := range []int{-1, 0, 1, 9, math.MaxInt} {
			got, ok := head.Freed(w, gens)
			check(t, "Freed", w, got, ok, nil)
		}
	}
}

// P4.4: what is shaded is marked; what is marked isn't shaded, nor retired.
func TestShadedIsMarked(t *testing.T) {
	for _, h := range rights() {
		for _, e := range epochs() {
			w := worth(h)
			if s, ok := head.Shaded(w, e); ok {
				w = s
				if !head.Marked(w, e) {
					t.Fatalf("Shaded(%+v, %d) isn't marked", h, e)
				}
			}
			if !head.Marked(w, e) {
				continue
			}
			if got, ok := head.Shaded(w, e); got != w || ok {
				t.Fatalf("%#x is marked in %d, and shaded", w, e)
			}
			if got, ok := head.Retired(w, e); got != w || ok {
				t.Fatalf("%#x is marked in %d, and retired", w, e)
			}
		}
	}
}

// P4.4: blackened twice is as once.
func TestBlackenedTwice(t *testing.T) {
	for _, h := range rights() {
		once, _ := head.Blackened(worth(h))
		twice, ok := head.Blackened(once)
		if twice != once || ok {
			t.Errorf("%+v: blackened %#x, then %#x, %v", h, once, twice, ok)
		}
	}
}

// The chain of a slot: made, shaded, blackened, white in the next cycle, retired, freed, and dead at last.
func TestLifeOfASlot(t *testing.T) {
	w, ok := head.Made(api.Node, 2, 0, 4)
	if !ok || head.Marked(w, 4) || head.Marked(w, 6) {
		t.Fatalf("Made in a rest: %#x, %v", w, ok)
	}
	w, _ = head.Shaded(w, 6)
	w, ok = head.Blackened(w)
	if !ok || !head.Marked(w, 7) || head.Marked(w, 8) {
		t.Fatalf("Shaded and blackened: %#x, %v", w, ok)
	}
	w, ok = head.Retired(w, 11)
	if !ok || w != 3+2*32+11<<48 {
		t.Fatalf("Retired: %#x, %v", w, ok)
	}
	free, ok := head.Freed(w, 2)
	if !ok || free != 1<<16 {
		t.Fatalf("Freed: %#x, %v", free, ok)
	}
	dead, ok := head.Freed(w, 1)
	if !ok || dead != w+1 {
		t.Fatalf("Freed for the last time: %#x, %v", dead, ok)
	}
}
