package tag_test

import (
	"math"
	"testing"

	"withy/api"
	"withy/tag"
)

// farInts are numbers below 0, and the greatest ones.
func farInts() []int {
	return []int{math.MinInt, math.MinInt + 1, math.MinInt32, -1 << 32, -65536, -256, -255, -64, -3, -2, 1 << 16, 1<<16 - 1, 1 << 32, 1<<32 - 1, 1 << 48, math.MaxInt32, math.MaxInt - 1, math.MaxInt}
}

// slots are numbers that are a slot's, none's, or neither's, and the edges between these.
func slots() []int {
	return append(farInts(), -1, 0, 1, 4, 15, 31, 32, 62, 63, 64, 65, 127, 128, 255, 256)
}

// tags are tags at the edges of what a handle's, an entry's and a top's hold.
func tags() []uint64 {
	l := []uint64{0, 1, 2, 3, 0x1234_5678, math.MaxUint64 - 1, math.MaxUint64}
	for _, n := range []int{16, 31, 32, 33, 47, 48, 49, 63} {
		l = append(l, 1<<n-1, 1<<n, 1<<n+1)
	}
	return l
}

// anyWords are words of all kinds: single bits, runs of bits from either end, and mixed ones.
func anyWords() []uint64 {
	l := []uint64{0, math.MaxUint64, 0x0123_4567_89ab_cdef, 0xfedc_ba98_7654_3210, 0xaaaa_aaaa_aaaa_aaaa, 0x5555_5555_5555_5555}
	for n := range 64 {
		l = append(l, 1<<n, 1<<n-1, ^uint64(0)<<n, ^(uint64(1) << n))
	}
	return l
}

// join is a word by a sum: the slot's number and 1, and the tag times what the bits below it hold.
func join(tag, below uint64, slot int) uint64 {
	return tag*below + uint64(slot+1)
}

// checkJoined holds one of Top and Entry against the sum, at all slots and tags.
func checkJoined(t *testing.T, name string, call func(uint64, int) (uint64, bool), below, maxTag uint64) {
	t.Helper()
	for _, n := range tags() {
		for _, slot := range slots() {
			w, ok := call(n, slot)
			right := n <= maxTag && slot >= -1 && slot <= 63
			want := uint64(0)
			if right {
				want = join(n, below, slot)
			}
			if w != want || ok != right {
				t.Errorf("%s(%d, %d): %#x, %v, want %#x, %v", name, n, slot, w, ok, want, right)
			}
		}
	}
}

// P5.1: a top's word has the slot in 16 bits and the tag in 48; there is none of other tags and slots.
func TestTop(t *testing.T) {
	checkJoined(t, "Top", tag.Top, 1<<16, 1<<48-1)
	if w, ok := tag.Top(1, 4); w != 65541 || !ok {
		t.Errorf("the document's example: %d, %v", w, ok)
	}
}

// P5.1: an entry's word has the slot in 32 bits and the tag in 32; there is none of other tags and slots.
func TestEntry(t *testing.T) {
	checkJoined(t, "Entry", tag.Entry, 1<<32, 1<<32-1)
}

// P5.1: the parts of any word, one that Top and Entry never answer too.
func TestPartsOfAnyWord(t *testing.T) {
	for _, w := range anyWords() {
		if n, slot := tag.TopParts(w); n != w/65536 || slot != int(w%65536)-1 {
			t.Errorf("TopParts(%#x): %d, %d, want %d, %d", w, n, slot, w/65536, int(w%65536)-1)
		}
		if n, slot := tag.EntryParts(w); n != w/4294967296 || slot != int(w%4294967296)-1 {
			t.Errorf("EntryParts(%#x): %d, %d, want %d, %d", w, n, slot, w/4294967296, int(w%4294967296)-1)
		}
	}
}

// P5.1: words whose low bits are all 0 name none; those whose low bits are all 1 the greatest number.
func TestPartsAtTheEdges(t *testing.T) {
	for _, c := range []struct {
		name string
		got  func(uint64) (uint64, int)
		w, n uint64
		slot int
	}{
		{"TopParts", tag.TopParts, 0, 0, -1},
		{"TopParts", tag.TopParts, 0xffff, 0, 65534},
		{"TopParts", tag.TopParts, 0x1_0000, 1, -1},
		{"TopParts", tag.TopParts, 0xffff_ffff_ffff_0000, 1<<48 - 1, -1},
		{"TopParts", tag.TopParts, math.MaxUint64, 1<<48 - 1, 65534},
		{"TopParts", tag.TopParts, 0x8000_0000_0000_0040, 1 << 47, 63},
		{"EntryParts", tag.EntryParts, 0, 0, -1},
		{"EntryParts", tag.EntryParts, 0xffff_ffff, 0, 1<<32 - 2},
		{"EntryParts", tag.EntryParts, 0x1_0000_0000, 1, -1},
		{"EntryParts", tag.EntryParts, 0xffff_ffff_0000_0000, 1<<32 - 1, -1},
		{"EntryParts", tag.EntryParts, math.MaxUint64, 1<<32 - 1, 1<<32 - 2},
		{"EntryParts", tag.EntryParts, 0x8000_0000_0000_0040, 1 << 31, 63},
	} {
		if n, slot := c.got(c.w); n != c.n || slot != c.slot {
			t.Errorf("%s(%#x): %d, %d, want %d, %d", c.name, c.w, n, slot, c.n, c.slot)
		}
	}
}

// P5.4: there and back of tops and entries.
func TestJoinedAndParted(t *testing.T) {
	for _, n := range tags() {
		for slot := -1; slot < 64; slot++ {
			if w, ok := tag.Top(n, slot); ok {
				if backTag, backSlot := tag.TopParts(w); backTag != n || backSlot != slot {
					t.Errorf("TopParts(Top(%d, %d)): %d, %d", n, slot, backTag, backSlot)
				}
			}
			if w, ok := tag.Entry(n, slot); ok {
				if backTag, backSlot := tag.EntryParts(w); backTag != n || backSlot != slot {
					t.Errorf("EntryParts(Entry(%d, %d)): %d, %d", n, slot, backTag, backSlot)
				}
			}
		}
	}
}

// P5.2: of any word, the next tag, and the slot or none.
func TestMoved(t *testing.T) {
	for _, w := range anyWords() {
		next := w/65536 + 1
		if next == 1<<48 {
			next = 0
		}
		for _, slot := range slots() {
			named := uint64(0)
			if slot >= 0 && slot <= 63 {
				named = uint64(slot) + 1
			}
			if got := tag.Moved(w, slot); got != next*65536+named {
				t.Errorf("Moved(%#x, %d): %#x, want %#x", w, slot, got, next*65536+named)
			}
		}
	}
}

// P5.2: the document's example, and a top with the greatest tag.
func TestMovedAtTheEdges(t *testing.T) {
	for _, c := range []struct {
		w    uint64
		slot int
		want uint64
	}{
		{65541, -1, 131072},
		{0, 0, 0x1_0001},
		{0xffff, 63, 0x1_0040},
		{0xffff_ffff_fffe_0005, 4, 0xffff_ffff_ffff_0005},
		{0xffff_ffff_ffff_0005, 4, 5},
		{0xffff_ffff_ffff_0005, -1, 0},
		{math.MaxUint64, 64, 0},
		{math.MaxUint64, 63, 64},
	} {
		if got := tag.Moved(c.w, c.slot); got != c.want {
			t.Errorf("Moved(%#x, %d): %#x, want %#x", c.w, c.slot, got, c.want)
		}
	}
}

// P5.4: tops that were moved are unlike, whatever slots they name, over the edges of 16 and 48 bits too.
func TestMovedAreUnlike(t *testing.T) {
	for _, first := range []uint64{0, 1<<16 - 4, 1<<32 - 5000, 1<<48 - 5000} {
		w, ok := tag.Top(first, 3)
		if !ok {
			t.Fatalf("Top(%d, 3): none", first)
		}
		seen := map[uint64]bool{w: true}
		for i := range 10000 {
			w = tag.Moved(w, i%3-1)
			if seen[w] {
				t.Fatalf("from the tag %d on, move %d: %#x comes again", first, i, w)
			}
			seen[w] = true
		}
	}
}

// clients are numbers that are a client's or none's.
func clients() []int {
	return append(farInts(), -1, 0, 1, 3, 6, 7, 8, 9, 254, 255, 256, 257)
}

// entries are numbers that are an entry's, a walk's or none's.
func entries() []int {
	return append(farInts(), -1, 0, 1, 2, 7, 14, 15, 16, 17, 127, 128, 253, 254, 255, 256, 257, 271, 511)
}

// isHandleOf tells whether the document has a handle of these.
func isHandleOf(client, entry int, n uint64) bool {
	isEntry := entry == 255 || entry >= 0 && entry <= 15
	return client >= 0 && client <= 7 && isEntry && n >= 1 && n <= 4294967295
}

// P5.3: a handle's number, and none of what there isn't.
func TestHandle(t *testing.T) {
	for _, client := range clients() {
		for _, entry := range entries() {
			for _, n := range tags() {
				h, ok := tag.Handle(client, entry, n)
				right := isHandleOf(client, entry, n)
				want := uint64(0)
				if right {
					want = uint64(client+1)*0x0100_0000_0000_0000 + uint64(entry)*0x0001_0000_0000_0000 + n
				}
				if h != want || ok != right {
					t.Errorf("Handle(%d, %d, %d): %#x, %v, want %#x, %v", client, entry, n, h, ok, want, right)
				}
			}
		}
	}
}

// P5.3: the document's example, and handles at the edges.
func TestHandleAtTheEdges(t *testing.T) {
	for _, c := range []struct {
		client, entry int
		n, want       uint64
	}{
		{0, 2, 3, 0x0102_0000_0000_0003},
		{0, 0, 1, 0x0100_0000_0000_0001},
		{7, 15, api.MaxTag, 0x080f_0000_ffff_ffff},
		{7, 255, api.MaxTag, 0x08ff_0000_ffff_ffff},
		{0, 255, 1, 0x01ff_0000_0000_0001},
	} {
		if h, ok := tag.Handle(c.client, c.entry, c.n); h != c.want || !ok {
			t.Errorf("Handle(%d, %d, %d): %#x, %v, want %#x, true", c.client, c.entry, c.n, h, ok, c.want)
		}
	}
}

// handles are all clients' handles of all entries, with tags at the edges.
func handles(t *testing.T) []uint64 {
	t.Helper()
	var l []uint64
	for client := range 8 {
		for _, entry := range []int{0, 1, 2, 3, 4, 5, 6, 7, 8, 9, 10, 11, 12, 13, 14, 15, 255} {
			for _, n := range []uint64{1, 2, 0x1234_5678, 1 << 31, api.MaxTag - 1, api.MaxTag} {
				h, ok := tag.Handle(client, entry, n)
				if !ok {
					t.Fatalf("Handle(%d, %d, %d): none", client, entry, n)
				}
				if c, e, back, ok := tag.HandleParts(h); c != client || e != entry || back != n || !ok {
					t.Errorf("HandleParts(%#x): %d, %d, %d, %v, want %d, %d, %d, true", h, c, e, back, ok, client, entry, n)
				}
				l = append(l, h)
			}
		}
	}
	return l
}

// checkParts holds HandleParts of any number against the document's words: each part by divisions.
func checkParts(t *testing.T, h uint64) {
	t.Helper()
	client := int(h/0x0100_0000_0000_0000) - 1
	entry := int(h / 0x0001_0000_0000_0000 % 256)
	n := h % 4294967296
	right := h/4294967296%65536 == 0 && isHandleOf(client, entry, n)
	if !right {
		client, entry, n = 0, 0, 0
	}
	if c, e, got, ok := tag.HandleParts(h); c != client || e != entry || got != n || ok != right {
		t.Errorf("HandleParts(%#x): %d, %d, %d, %v, want %d, %d, %d, %v", h, c, e, got, ok, client, entry, n, right)
	}
}

// P5.3, P5.4: handles there and back; and with one or two bits turned they are another handle, or none.
func TestHandleParts(t *testing.T) {
	all := handles(t)
	for i, h := range all {
		for a := range 64 {
			checkParts(t, h^1<<a)
			if i%7 != 0 {
				continue
			}
			for b := range a {
				checkParts(t, h^1<<a^1<<b)
			}
		}
	}
	for _, w := range anyWords() {
		checkParts(t, w)
	}
}

// P5.3: numbers of all clients' and entries' bytes, those that there are not too.
func TestHandlePartsOfAllBytes(t *testing.T) {
	for high := range uint64(65536) {
		for _, low := range []uint64{0, 1, api.MaxTag, 1 << 32, 1<<32 | 1, 1<<47 | 5} {
			checkParts(t, high<<48|low)
		}
	}
}

// P5.3: one of the 16 bits that are 0 makes a handle none.
func TestHandlePartsOfSetBits(t *testing.T) {
	for _, h := range handles(t) {
		for bit := 32; bit < 48; bit++ {
			if c, e, n, ok := tag.HandleParts(h | 1<<bit); c != 0 || e != 0 || n != 0 || ok {
				t.Errorf("HandleParts(%#x): %d, %d, %d, %v, want nothing", h|1<<bit, c, e, n, ok)
			}
		}
	}
}

// P5.3, P5.4: 0 is no handle, nor is a number with the tag 0, nor one without a client.
func TestNoHandles(t *testing.T) {
	for _, h := range []uint64{0, 1, math.MaxUint64, 0x0002_0000_0000_0003, 0x00ff_0000_0000_0003, 0x0102_0000_0000_0000, 0x01ff_0000_0000_0000, 0x0902_0000_0000_0003, 0x0110_0000_0000_0003, 0x01fe_0000_0000_0003} {
		if c, e, n, ok := tag.HandleParts(h); c != 0 || e != 0 || n != 0 || ok {
			t.Errorf("HandleParts(%#x): %d, %d, %d, %v, want nothing", h, c, e, n, ok)
		}
	}
}
