package turn_test

import (
	"math"
	"testing"

	"withy/turn"
)

// words are the four phases, in the document's order.
func words() []complex128 {
	return []complex128{1, 1i, -1, -1i}
}

// epochs are the first ones, some far ones, and the greatest.
func epochs() []uint64 {
	var l []uint64
	for e := range uint64(40) {
		l = append(l, e, math.MaxUint64-e, 1<<31-20+e, 1<<32-20+e, 1<<63-20+e)
	}
	return l
}

// strangers are numbers that are no phase.
func strangers() []complex128 {
	inf, nan, tiny := math.Inf(1), math.NaN(), math.SmallestNonzeroFloat64
	l := []complex128{0, complex(math.Copysign(0, -1), math.Copysign(0, -1)), 2, -2, 2i, -2i, 0.5, 0.5i, 3 + 4i, 0.6 + 0.8i}
	for _, a := range []float64{inf, -inf, nan, math.MaxFloat64} {
		for _, b := range []float64{0, 1, -1, inf, -inf, nan} {
			l = append(l, complex(a, b), complex(b, a))
		}
	}
	for _, a := range []float64{1, -1} {
		l = append(l, complex(a, 1), complex(a, -1), complex(a, tiny), complex(tiny, a), complex(a, -tiny), complex(-tiny, a))
		l = append(l, complex(math.Nextafter(a, 2), 0), complex(0, math.Nextafter(a, 2)), complex(math.Nextafter(a, -2), 0), complex(0, math.Nextafter(a, -2)))
	}
	return l
}

// sameBits holds two numbers against each other, a zero's sign too.
func sameBits(u, v complex128) bool {
	return math.Float64bits(real(u)) == math.Float64bits(real(v)) && math.Float64bits(imag(u)) == math.Float64bits(imag(v))
}

// P3.1: an epoch's phase is exactly one of four.
func TestAt(t *testing.T) {
	for _, e := range epochs() {
		if got, want := turn.At(e), words()[e&3]; !sameBits(got, want) {
			t.Errorf("At(%d): %v, want %v", e, got, want)
		}
	}
	table := map[uint64]complex128{0: 1, 1: 1i, 2: -1, 3: -1i, 4: 1, 6: -1, 7: -1i, 8: 1, math.MaxUint64: -1i}
	for e, want := range table {
		if got := turn.At(e); got != want {
			t.Errorf("At(%d): %v, want %v", e, got, want)
		}
	}
}

// P3.1: the phase a quarter on, and back.
func TestNextAndBack(t *testing.T) {
	for q, u := range words() {
		if got, want := turn.Next(u), words()[(q+1)%4]; got != want {
			t.Errorf("Next(%v): %v, want %v", u, got, want)
		}
		if got, want := turn.Back(u), words()[(q+3)%4]; got != want {
			t.Errorf("Back(%v): %v, want %v", u, got, want)
		}
	}
}

// P3.1: of any number they are its products with i and -i.
func TestNextAndBackOfAnyNumber(t *testing.T) {
	parts := []float64{0, 1, -1, 0.25, -3, 1e300, -1e-300, math.MaxFloat64, math.SmallestNonzeroFloat64}
	for _, a := range parts {
		for _, b := range parts {
			u := complex(a, b)
			if got, want := turn.Next(u), complex(-b, a); got != want {
				t.Errorf("Next(%v): %v, want %v", u, got, want)
			}
			if got, want := turn.Back(u), complex(b, -a); got != want {
				t.Errorf("Back(%v): %v, want %v", u, got, want)
			}
		}
	}
}

// P3.1: numbers with infinite parts, or with parts that are no number, are turned without a panic into no phase.
func TestNextAndBackOfStrangers(t *testing.T) {
	for _, u := range strangers() {
		if turn.Quarter(turn.Next(u)) != -1 || turn.Quarter(turn.Back(u)) != -1 {
			t.Errorf("Next, Back of %v: %v, %v, want no phases", u, turn.Next(u), turn.Back(u))
		}
	}
}

// P3.1: the phases' numbers, with zeros of either sign; -1 of all others.
func TestQuarter(t *testing.T) {
	negative := math.Copysign(0, -1)
	for q, u := range words() {
		forms := []complex128{u}
		if q%2 == 0 {
			forms = append(forms, complex(real(u), negative))
		} else {
			forms = append(forms, complex(negative, imag(u)))
		}
		for _, v := range forms {
			if got := turn.Quarter(v); got != q {
				t.Errorf("Quarter(%v): %d, want %d", v, got, q)
			}
		}
	}
	for _, u := range strangers() {
		if got := turn.Quarter(u); got != -1 {
			t.Errorf("Quarter(%v): %d, want -1", u, got)
		}
	}
}

// P3.1: the quarters between two phases are those that Next takes from the one to the other.
func TestBetween(t *testing.T) {
	for _, u := range words() {
		v := u
		for n := range 4 {
			if got := turn.Between(u, v); got != n {
				t.Errorf("Between(%v, %v): %d, want %d", u, v, got, n)
			}
			v = turn.Next(v)
		}
	}
	for _, e := range epochs() {
		for n := range uint64(9) {
			if e+n < e {
				continue
			}
			if got := turn.Between(turn.At(e), turn.At(e+n)); got != int(n%4) {
				t.Errorf("Between(At(%d), At(%d)): %d, want %d", e, e+n, got, n%4)
			}
		}
	}
}

// P3.1: -1, if one of the two is no phase, or both; even if their product is one.
func TestBetweenStrangers(t *testing.T) {
	for _, u := range strangers() {
		for _, v := range words() {
			if turn.Between(u, v) != -1 || turn.Between(v, u) != -1 {
				t.Errorf("Between %v and %v: %d, %d, want -1", u, v, turn.Between(u, v), turn.Between(v, u))
			}
		}
		for _, v := range strangers() {
			if got := turn.Between(u, v); got != -1 {
				t.Errorf("Between(%v, %v): %d, want -1", u, v, got)
			}
		}
	}
}

// P3.2: fence and mark have a barrier, rest and sweep none.
func TestBarrier(t *testing.T) {
	for q, u := range words() {
		if got, want := turn.Barrier(u), q == 1 || q == 2; got != want {
			t.Errorf("Barrier(%v): %v, want %v", u, got, want)
		}
	}
}

// P3.2: of any number: is its imaginary part above its real one?
func TestBarrierOfAnyNumber(t *testing.T) {
	inf, nan, negative := math.Inf(1), math.NaN(), math.Copysign(0, -1)
	table := []struct {
		u    complex128
		want bool
	}{
		{0, false}, {complex(negative, 0), false}, {complex(0, negative), false},
		{1 + 1i, false}, {-1 - 1i, false}, {1 + 2i, true}, {2 + 1i, false}, {-2 - 1i, true}, {-1 - 2i, false},
		{0.25 + 0.5i, true}, {complex(1, math.Nextafter(1, 2)), true}, {complex(math.Nextafter(1, 2), 1), false},
		{complex(0, inf), true}, {complex(inf, 0), false}, {complex(-inf, 0), true}, {complex(0, -inf), false},
		{complex(inf, inf), false}, {complex(-inf, inf), true}, {complex(-inf, -inf), false},
		{complex(nan, 1), false}, {complex(1, nan), false}, {complex(nan, nan), false}, {complex(nan, inf), false},
	}
	for _, row := range table {
		if got := turn.Barrier(row.u); got != row.want {
			t.Errorf("Barrier(%v): %v, want %v", row.u, got, row.want)
		}
	}
}

// P3.2: an epoch is fenced, if its phase has a barrier.
func TestFenced(t *testing.T) {
	for _, e := range epochs() {
		if got, want := turn.Fenced(e), e%4 == 1 || e%4 == 2; got != want {
			t.Errorf("Fenced(%d): %v, want %v", e, got, want)
		}
	}
}

// P3.3: cycles have four epochs each, and are numbered from 0 on; their blacks are 1 and 0 by turns.
func TestCycleAndBlack(t *testing.T) {
	cycle, black := uint64(0), 1
	for e := range uint64(64) {
		if e > 0 && turn.Quarter(turn.At(e)) == 0 {
			cycle, black = cycle+1, 1-black
		}
		if turn.Cycle(e) != cycle || turn.Black(e) != black {
			t.Errorf("Cycle(%d), Black: %d, %d, want %d, %d", e, turn.Cycle(e), turn.Black(e), cycle, black)
		}
	}
	table := []struct {
		e, cycle uint64
		black    int
	}{
		{0, 0, 1}, {3, 0, 1}, {4, 1, 0}, {7, 1, 0}, {8, 2, 1},
		{1<<33 - 1, 1<<31 - 1, 0}, {1 << 33, 1 << 31, 1},
		{math.MaxUint64 - 4, 1<<62 - 2, 1}, {math.MaxUint64 - 3, 1<<62 - 1, 0}, {math.MaxUint64, 1<<62 - 1, 0},
	}
	for _, row := range table {
		if turn.Cycle(row.e) != row.cycle || turn.Black(row.e) != row.black {
			t.Errorf("Cycle(%d), Black: %d, %d, want %d, %d", row.e, turn.Cycle(row.e), turn.Black(row.e), row.cycle, row.black)
		}
	}
}

// P3.3: what is made in rest is white, what is made elsewhere black.
func TestBorn(t *testing.T) {
	for e, want := range []int{0, 1, 1, 1, 1, 0, 0, 0, 0, 1, 1, 1, 1, 0} {
		if got := turn.Born(uint64(e)); got != want {
			t.Errorf("Born(%d): %d, want %d", e, got, want)
		}
	}
	for _, e := range epochs() {
		want := turn.Black(e)
		if e%4 == 0 {
			want = 1 - want
		}
		if got := turn.Born(e); got != want {
			t.Errorf("Born(%d): %d, want %d", e, got, want)
		}
	}
}

// P3.4: four quarters on, and back, is where it was; one on and one back too.
func TestWholeTurns(t *testing.T) {
	for _, u := range append(words(), 0, 2, 1+1i, -3+0.5i) {
		on, back := u, u
		for range 4 {
			on, back = turn.Next(on), turn.Back(back)
		}
		if on != u || back != u || turn.Back(turn.Next(u)) != u || turn.Next(turn.Back(u)) != u {
			t.Errorf("%v: four on %v, four back %v", u, on, back)
		}
	}
	for e := range uint64(20) {
		if turn.Next(turn.At(e)) != turn.At(e+1) || turn.Back(turn.At(e+1)) != turn.At(e) {
			t.Errorf("the phases of %d and the epoch behind it", e)
		}
	}
}

// P3.4: what is born in a fence, a mark or a sweep bears the white of the next cycle.
func TestBornWhiteOfTheNextCycle(t *testing.T) {
	for _, e := range epochs() {
		if e%4 == 0 || e > math.MaxUint64-4 {
			continue
		}
		if white := 1 - turn.Black(e+4); turn.Born(e) != white {
			t.Errorf("Born(%d): %d, want the next cycle's white %d", e, turn.Born(e), white)
		}
	}
}
