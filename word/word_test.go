package word_test

import (
	"math"
	"slices"
	"testing"

	"withy/api"
	"withy/word"
)

// samples are words with few, many and all bits set.
func samples() []uint64 {
	l := []uint64{0, 1, 0xabcd, 1 << 63, 0x8000000000000001, 0xaaaaaaaaaaaaaaaa, 0x5555555555555555, math.MaxUint64 - 1, math.MaxUint64}
	w := uint64(1)
	for range 8 {
		w = w*6364136223846793005 + 1442695040888963407
		l = append(l, w)
	}
	return l
}

// numbers are places and sizes about the edges, and far beyond them.
func numbers() []int {
	l := []int{math.MinInt, math.MinInt + 1, math.MinInt + 64, math.MinInt32, math.MaxInt32, math.MaxInt - 64, math.MaxInt - 63, math.MaxInt - 1, math.MaxInt}
	for i := -66; i <= 130; i++ {
		l = append(l, i)
	}
	return l
}

// someBits says as the document does, one by one, what some bits are.
func someBits(at, n int) bool {
	for size := 1; size <= 64; size++ {
		for from := 0; from+size <= 64; from++ {
			if from == at && size == n {
				return true
			}
		}
	}
	return false
}

// bit is one bit of a word.
func bit(w uint64, i int) bool {
	return w&(1<<uint(i)) != 0
}

// slowGet puts the number together bit by bit.
func slowGet(w uint64, at, n int) uint64 {
	sum, worth := uint64(0), uint64(1)
	for i := at; i < at+n; i++ {
		if bit(w, i) {
			sum += worth
		}
		worth *= 2
	}
	return sum
}

// P1.1: Get at all places and sizes, right ones and wrong ones.
func TestGetEverywhere(t *testing.T) {
	for _, at := range numbers() {
		for _, n := range numbers() {
			right := someBits(at, n)
			for _, w := range samples() {
				want := uint64(0)
				if right {
					want = slowGet(w, at, n)
				}
				if got := word.Get(w, at, n); got != want {
					t.Fatalf("Get(%#x, %d, %d): %#x, want %#x", w, at, n, got, want)
				}
			}
		}
	}
}

// P1.1: Set at all places and sizes: the bits are v's lowest ones, all others w's; w itself where they aren't some bits.
func TestSetEverywhere(t *testing.T) {
	for _, at := range numbers() {
		for _, n := range numbers() {
			right := someBits(at, n)
			for _, w := range samples() {
				for _, v := range []uint64{0, math.MaxUint64, 0x9e3779b97f4a7c15} {
					checkSet(t, right, w, at, n, v)
				}
			}
		}
	}
}

func checkSet(t *testing.T, right bool, w uint64, at, n int, v uint64) {
	t.Helper()
	got := word.Set(w, at, n, v)
	if !right {
		if got != w {
			t.Fatalf("Set(%#x, %d, %d, %#x): %#x, want the word as it was", w, at, n, v, got)
		}
		return
	}
	for i := range 64 {
		want := bit(w, i)
		if i >= at && i < at+n {
			want = bit(v, i-at)
		}
		if bit(got, i) != want {
			t.Fatalf("Set(%#x, %d, %d, %#x): %#x, wrong at bit %d", w, at, n, v, got, i)
		}
	}
}

// P1.1: the document's examples, and the edges that it names, by number.
func TestGetSetNamed(t *testing.T) {
	all := uint64(math.MaxUint64)
	for _, c := range []struct {
		w     uint64
		at, n int
		want  uint64
	}{
		{0xabcd, 4, 8, 0xbc},
		{all, 0, 64, all},
		{all, 0, 65, 0},
		{all, 1, 64, 0},
		{all, 1, 63, math.MaxInt64},
		{all, 63, 1, 1},
		{all, 63, 2, 0},
		{all, 64, 1, 0},
		{all, 64, 0, 0},
		{all, 0, 0, 0},
		{all, 0, -1, 0},
		{all, -1, 1, 0},
		{all, -1, 2, 0},
		{all, math.MaxInt, 1, 0},
		{all, 1, math.MaxInt, 0},
		{all, math.MaxInt, math.MaxInt, 0},
		{all, math.MinInt, math.MinInt, 0},
	} {
		if got := word.Get(c.w, c.at, c.n); got != c.want {
			t.Errorf("Get(%#x, %d, %d): %#x, want %#x", c.w, c.at, c.n, got, c.want)
		}
	}
	for _, c := range []struct {
		w     uint64
		at, n int
		v     uint64
		want  uint64
	}{
		{0, 60, 4, 0x1f, 0xf000000000000000},
		{7, 0, 64, 5, 5},
		{7, 0, 65, 5, 7},
		{7, 61, 4, 5, 7},
		{7, 64, 1, 0, 7},
		{7, 0, 0, 0, 7},
		{7, 0, -1, 0, 7},
		{7, -1, 2, 0, 7},
		{7, math.MaxInt, 1, 0, 7},
		{all, 8, 8, 0x1234, 0xffffffffffff34ff},
	} {
		if got := word.Set(c.w, c.at, c.n, c.v); got != c.want {
			t.Errorf("Set(%#x, %d, %d, %#x): %#x, want %#x", c.w, c.at, c.n, c.v, got, c.want)
		}
	}
}

// P1.2: Fits.
func TestFits(t *testing.T) {
	for _, c := range []struct {
		v    uint64
		n    int
		want bool
	}{
		{0, math.MinInt, false},
		{0, -1, false},
		{0, 0, true},
		{1, 0, false},
		{1, 1, true},
		{2, 1, false},
		{7, 3, true},
		{8, 3, false},
		{1<<62 - 1, 62, true},
		{1 << 62, 62, false},
		{1<<63 - 1, 63, true},
		{1 << 63, 63, false},
		{math.MaxUint64, 63, false},
		{math.MaxUint64, 64, true},
		{math.MaxUint64, 65, true},
		{math.MaxUint64, math.MaxInt, true},
	} {
		if got := word.Fits(c.v, c.n); got != c.want {
			t.Errorf("Fits(%#x, %d): %v, want %v", c.v, c.n, got, c.want)
		}
	}
	for n := range 64 {
		power := uint64(1) << n
		if word.Fits(power, n) || !word.Fits(power-1, n) {
			t.Errorf("Fits about 2 to the power %d", n)
		}
	}
}

// ones is n times one bit that is set.
func ones(n int) []api.Bits {
	l := make([]api.Bits, n)
	for i := range l {
		l[i] = api.Bits{N: 1, V: 1}
	}
	return l
}

// P1.2: Pack, of ordinary lists, at the edges, and of wrong ones.
func TestPack(t *testing.T) {
	for _, c := range []struct {
		name string
		l    []api.Bits
		want uint64
		ok   bool
	}{
		{"the example", []api.Bits{{N: 3, V: 5}, {N: 1, V: 1}}, 13, true},
		{"nil", nil, 0, true},
		{"empty", []api.Bits{}, 0, true},
		{"one whole word", []api.Bits{{N: 64, V: math.MaxUint64}}, math.MaxUint64, true},
		{"zeros", []api.Bits{{N: 5}, {N: 7}}, 0, true},
		{"64 in all", []api.Bits{{N: 32, V: 2}, {N: 31, V: 3}, {N: 1, V: 1}}, 1<<63 | 3<<32 | 2, true},
		{"64 of one bit", ones(64), math.MaxUint64, true},
		{"65 in all", []api.Bits{{N: 32, V: 2}, {N: 32, V: 3}, {N: 1, V: 0}}, 0, false},
		{"65 of one bit", ones(65), 0, false},
		{"65 in one", []api.Bits{{N: 65, V: 1}}, 0, false},
		{"an N of 0", []api.Bits{{N: 3, V: 5}, {N: 0, V: 0}}, 0, false},
		{"an N of 0 behind 64 bits", []api.Bits{{N: 64, V: 5}, {N: 0, V: 0}}, 0, false},
		{"an N below 0", []api.Bits{{N: 3, V: 5}, {N: -1, V: 0}}, 0, false},
		{"an N below 0 that evens out", []api.Bits{{N: 64, V: 5}, {N: -4, V: 0}, {N: 4, V: 0}}, 0, false},
		{"the lowest N", []api.Bits{{N: math.MinInt, V: 0}}, 0, false},
		{"a value that doesn't fit", []api.Bits{{N: 3, V: 8}}, 0, false},
		{"the last one doesn't fit", []api.Bits{{N: 3, V: 5}, {N: 1, V: 2}}, 0, false},
		{"the greatest N", []api.Bits{{N: math.MaxInt, V: 0}}, 0, false},
		{"N that wrap round", []api.Bits{{N: math.MaxInt, V: 0}, {N: math.MaxInt, V: 0}, {N: 4, V: 1}}, 0, false},
		{"N that wrap round late", []api.Bits{{N: 1, V: 1}, {N: math.MaxInt, V: 0}}, 0, false},
	} {
		if w, ok := word.Pack(c.l); w != c.want || ok != c.ok {
			t.Errorf("Pack of %s: %#x, %v, want %#x, %v", c.name, w, ok, c.want, c.ok)
		}
	}
}

// P1.2: Unpack, of ordinary sizes, at the edges, and of wrong ones.
func TestUnpack(t *testing.T) {
	for _, c := range []struct {
		name  string
		w     uint64
		sizes []int
		want  []uint64
		ok    bool
	}{
		{"the example", 13, []int{3, 1}, []uint64{5, 1}, true},
		{"nil", 13, nil, nil, true},
		{"empty", 13, []int{}, nil, true},
		{"bits that nobody asks for", math.MaxUint64, []int{3, 1}, []uint64{7, 1}, true},
		{"one whole word", math.MaxUint64, []int{64}, []uint64{math.MaxUint64}, true},
		{"64 in all", 1<<63 | 3<<32 | 2, []int{32, 31, 1}, []uint64{2, 3, 1}, true},
		{"64 of one bit", 5, slices.Repeat([]int{1}, 64), append([]uint64{1, 0, 1}, make([]uint64, 61)...), true},
		{"65 of one bit", 5, slices.Repeat([]int{1}, 65), nil, false},
		{"65 in all", 5, []int{32, 32, 1}, nil, false},
		{"65 in one", 5, []int{65}, nil, false},
		{"a size of 0", 5, []int{3, 0}, nil, false},
		{"a size of 0 behind 64 bits", 5, []int{64, 0}, nil, false},
		{"a size below 0", 5, []int{3, -1}, nil, false},
		{"a size below 0 that evens out", 5, []int{64, -4, 4}, nil, false},
		{"the lowest size", 5, []int{math.MinInt}, nil, false},
		{"the greatest size", 5, []int{math.MaxInt}, nil, false},
		{"sizes that wrap round", 5, []int{math.MaxInt, math.MaxInt, 4}, nil, false},
		{"sizes that wrap round late", 5, []int{1, math.MaxInt}, nil, false},
	} {
		if l, ok := word.Unpack(c.w, c.sizes); !slices.Equal(l, c.want) || ok != c.ok {
			t.Errorf("Unpack of %s: %v, %v, want %v, %v", c.name, l, ok, c.want, c.ok)
		}
	}
}

// P1.3: what was set is got, and other bits stay.
func TestSetThenGet(t *testing.T) {
	for at := range 64 {
		for n := 1; at+n <= 64; n++ {
			for _, w := range samples() {
				v := ^w*3 + uint64(at)
				now := word.Set(w, at, n, v)
				if word.Get(now, at, n) != word.Get(v, 0, n) {
					t.Fatalf("Get(Set(%#x, %d, %d, %#x)): %#x", w, at, n, v, word.Get(now, at, n))
				}
				if word.Get(now, 0, at) != word.Get(w, 0, at) || word.Get(now, at+n, 64-at-n) != word.Get(w, at+n, 64-at-n) {
					t.Fatalf("Set(%#x, %d, %d, %#x): other bits are %#x", w, at, n, v, now)
				}
			}
		}
	}
}

// cuts is a way to cut 64 bits or fewer into sizes, another one for each seed.
func cuts(seed uint64) []int {
	var l []int
	for left := 64; left > 0; {
		seed = seed*6364136223846793005 + 1442695040888963407
		n := int(seed>>40)%20 + 1
		if n > left {
			break
		}
		l = append(l, n)
		left -= n
	}
	return l
}

// P1.3: what was packed is unpacked, and no other bit is set.
func TestPackThenUnpack(t *testing.T) {
	for seed := range uint64(300) {
		sizes := cuts(seed)
		var l []api.Bits
		var want []uint64
		sum := 0
		for i, n := range sizes {
			v := (seed + uint64(i)*0x9e3779b97f4a7c15) % (1 << n)
			l, want, sum = append(l, api.Bits{N: n, V: v}), append(want, v), sum+n
		}
		w, ok := word.Pack(l)
		if !ok || !word.Fits(w, sum) {
			t.Fatalf("Pack(%v): %#x, %v", l, w, ok)
		}
		if got, ok := word.Unpack(w, sizes); !ok || !slices.Equal(got, want) {
			t.Fatalf("Unpack(%#x, %v): %v, %v, want %v", w, sizes, got, ok, want)
		}
	}
}

// Rule 4: what is handed in is as it was, its spare room too, and answers share no memory.
func TestHandedInStays(t *testing.T) {
	room := []int{3, 1, 77, 78}
	bits := []api.Bits{{N: 3, V: 5}, {N: 1, V: 1}, {N: 77, V: 77}}
	first, _ := word.Unpack(13, room[:2])
	word.Pack(bits[:2])
	if !slices.Equal(room, []int{3, 1, 77, 78}) || !slices.Equal(bits, []api.Bits{{N: 3, V: 5}, {N: 1, V: 1}, {N: 77, V: 77}}) {
		t.Errorf("handed in: %v, %v", room, bits)
	}
	second, _ := word.Unpack(13, room[:2])
	first[0] = 99
	if !slices.Equal(second, []uint64{5, 1}) {
		t.Errorf("the second answer: %v", second)
	}
}
