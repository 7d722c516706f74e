package window_test

import (
	"math"
	"math/big"
	"slices"
	"sync"
	"testing"

	"sidestick/api"
	"sidestick/window"
)

const (
	most  = math.MaxInt
	least = math.MinInt
	last  = 1<<32 - 1 // the greatest number that may be
)

// seen is a window that has seen something.
func seen(high int, bits uint64) api.Window {
	return api.Window{Any: true, High: high, Seen: bits}
}

// plain is P10.1 by long arithmetic, place by place: the window then, and whether the number is new.
func plain(w api.Window, n int) (api.Window, bool) {
	number, high := big.NewInt(int64(n)), big.NewInt(int64(w.High))
	if number.Sign() < 0 || number.Cmp(big.NewInt(last)) > 0 {
		return w, false
	}
	if !w.Any {
		return seen(n, 1), true
	}
	below := new(big.Int).Sub(high, number)
	if below.Sign() < 0 {
		return seen(n, movedUp(w.Seen, below.Neg(below))|1), true
	}
	if below.Cmp(big.NewInt(63)) > 0 {
		return w, false
	}
	bits := new(big.Int).SetUint64(w.Seen)
	place := int(below.Int64())
	if bits.Bit(place) == 1 {
		return w, false
	}
	return seen(w.High, bits.SetBit(bits, place, 1).Uint64()), true
}

// movedUp has each bit so many places higher, and those above the bit 63 gone.
func movedUp(bits uint64, by *big.Int) uint64 {
	from, to := new(big.Int).SetUint64(bits), new(big.Int)
	for i := range 64 {
		place := new(big.Int).Add(big.NewInt(int64(i)), by)
		if from.Bit(i) == 1 && place.Cmp(big.NewInt(63)) <= 0 {
			to.SetBit(to, int(place.Int64()), 1)
		}
	}
	return to.Uint64()
}

// check holds See against what is wanted.
func check(t *testing.T, w api.Window, n int, want api.Window, isNew bool) {
	t.Helper()
	if got, ok := window.See(w, n); got != want || ok != isNew {
		t.Fatalf("See(%+v, %d) = %+v, %v, want %+v, %v", w, n, got, ok, want, isNew)
	}
}

// checkNew holds the answer to a number that is new against the window then, which it is not new to.
func checkNew(t *testing.T, w api.Window, n int, want api.Window) {
	t.Helper()
	check(t, w, n, want, true)
	check(t, want, n, want, false)
}

// checkNot holds that a number is not new, and the window as it was.
func checkNot(t *testing.T, w api.Window, n int) {
	t.Helper()
	check(t, w, n, w, false)
}

// highs are those where a number may be, may not be any more, or an int ends.
func highs() []int {
	l := []int{least, least + 1, least + 63, least + 64, most - 64, most - 63, most - 1, most}
	for _, n := range []int{0, 64, 128, 1 << 31, last, last + 64, -1 << 32, 1 << 62} {
		for i := -2; i <= 2; i++ {
			l = append(l, n+i)
		}
	}
	return l
}

// fields are some of what a window has seen, the greatest one not seen among them.
func fields() []uint64 {
	l := []uint64{0, 5, 1<<63 | 1, 1<<64 - 1, 1<<64 - 2, 1<<63 - 1, 0x5555555555555555, 0xAAAAAAAAAAAAAAAA, 0x0123456789ABCDEF}
	for i := range 64 {
		l = append(l, 1<<i)
	}
	return l
}

// P10.1: the chapter's example, 5 and 7, and each number beside them.
func TestExample(t *testing.T) {
	w := api.Window{}
	for _, n := range []int{5, 7} {
		var ok bool
		if w, ok = window.See(w, n); !ok {
			t.Fatalf("%d is not new", n)
		}
	}
	if w != seen(7, 5) {
		t.Fatalf("behind 5 and 7 the window is %+v", w)
	}
	checkNew(t, w, 6, seen(7, 7))
	checkNot(t, w, 7)
	checkNot(t, w, 5)
	checkNew(t, w, 4, seen(7, 13))
	checkNew(t, w, 0, seen(7, 1<<7|5))
	checkNew(t, w, 8, seen(8, 11))
	checkNot(t, w, -1)
}

// P10.1: what has seen none takes each number that may be, whatever else it has, and no other.
func TestFirst(t *testing.T) {
	for _, high := range highs() {
		for _, bits := range []uint64{0, 1, 1<<64 - 1} {
			w := api.Window{High: high, Seen: bits}
			for _, n := range []int{0, 1, 63, 64, 65, 1 << 31, last - 1, last} {
				checkNew(t, w, n, seen(n, 1))
			}
			for _, n := range []int{-1, -2, -64, least, last + 1, last + 2, 1 << 40, most} {
				checkNot(t, w, n)
			}
		}
	}
}

// P10.1: no number below 0, or above MaxSeq, is new, be it above High, or a place that was not seen.
func TestNoNumber(t *testing.T) {
	for _, high := range append(highs(), 3, 30, -3, -30) {
		for _, bits := range []uint64{0, 1} {
			for _, n := range []int{-1, -2, -63, -64, -1 << 32, least, least + 1, last + 1, last + 2, last + 63, last + 64, 1 << 62, most - 1, most} {
				checkNot(t, seen(high, bits), n)
			}
		}
	}
}

// P10.1: above High: bits go up by as many places, and those above the bit 63 are gone.
func TestAbove(t *testing.T) {
	for _, x := range []struct {
		w    api.Window
		n    int
		want api.Window
	}{
		{seen(7, 5), 8, seen(8, 11)},
		{seen(7, 5), 10, seen(10, 41)},
		{seen(0, 1), 62, seen(62, 1<<62|1)},
		{seen(0, 1), 63, seen(63, 1<<63|1)},
		{seen(0, 1), 64, seen(64, 1)},
		{seen(0, 1), 65, seen(65, 1)},
		{seen(9, 1<<64-1), 10, seen(10, 1<<64-1)},
		{seen(9, 1<<64-1), 72, seen(72, 1<<63|1)},
		{seen(9, 1<<64-1), 73, seen(73, 1)},
		{seen(9, 1<<64-1), 9 + 128, seen(9+128, 1)},
		{seen(9, 1<<64-1), 9 + 256, seen(9+256, 1)},
		{seen(9, 1<<64-1), 9 + 1<<31, seen(9+1<<31, 1)},
		{seen(9, 1<<63|1), 10, seen(10, 3)},
		{seen(9, 0), 10, seen(10, 1)},
		{seen(9, 0), 90, seen(90, 1)},
		{seen(last-1, 1), last, seen(last, 3)},
		{seen(0, 1), last, seen(last, 1)},
		{seen(-1, 1), 0, seen(0, 3)},
		{seen(-63, 1), 0, seen(0, 1<<63|1)},
		{seen(-64, 1), 0, seen(0, 1)},
		{seen(least, 1<<64-1), 0, seen(0, 1)},
		{seen(least, 1<<64-1), 1, seen(1, 1)},
		{seen(least, 1<<64-1), last, seen(last, 1)},
		{seen(least+1, 1<<64-1), 0, seen(0, 1)},
		{seen(least+63, 1<<64-1), 64, seen(64, 1)},
	} {
		checkNew(t, x.w, x.n, x.want)
	}
}

// P10.1: at most 63 below High each place is told apart from all others; one farther below is not new, whatever was seen.
func TestBelow(t *testing.T) {
	for _, high := range []int{0, 5, 63, 64, 65, 1000, last, last + 1, last + 63} {
		for down := range 200 {
			n := high - down
			if n < 0 || n > last {
				continue
			}
			if down > 63 {
				checkNot(t, seen(high, 0), n)
				checkNot(t, seen(high, 1), n)
				checkNot(t, seen(high, 1<<64-1), n)
				continue
			}
			bit := uint64(1) << down
			checkNew(t, seen(high, 0), n, seen(high, bit))
			checkNew(t, seen(high, math.MaxUint64^bit), n, seen(high, math.MaxUint64))
			checkNot(t, seen(high, bit), n)
			checkNot(t, seen(high, math.MaxUint64), n)
		}
	}
}

// P10.1: where High is above MaxSeq, what is at most 63 below it is new all the same; where it is far above, nothing is.
func TestHighAboveAll(t *testing.T) {
	checkNew(t, seen(last+63, 1), last, seen(last+63, 1<<63|1))
	checkNot(t, seen(last+64, 1), last)
	for _, high := range []int{last + 65, 1 << 40, 1<<63 - 65, most - 1, most} {
		for _, n := range []int{0, 1, 63, 64, last - 1, last} {
			checkNot(t, seen(high, 0), n)
		}
	}
}

// P10.1: against the chapter's words, windows of all kinds, and numbers at, above and below what they have seen.
func TestPlain(t *testing.T) {
	numbers := highs()
	for _, high := range highs() {
		near := slices.Clone(numbers)
		for d := -70; d <= 70; d++ {
			near = append(near, high+d)
		}
		for _, bits := range fields() {
			for _, some := range []bool{true, false} {
				w := api.Window{Any: some, High: high, Seen: bits}
				for _, n := range near {
					want, isNew := plain(w, n)
					check(t, w, n, want, isNew)
				}
			}
		}
	}
}

// row is so many numbers, each of its place and of something mixed, from 0 to 65535, by a rule: the same ones each time.
func row(count int, rule func(i, chance int) int) []int {
	l := make([]int, count)
	chance := uint32(count)*2654435761 + 1
	for i := range l {
		chance = chance*1664525 + 1013904223
		l[i] = rule(i, int(chance>>16))
	}
	return l
}

// rows are numbers as they may come: in order, the other way, doubled, mixed, near and far, up to the end of them.
func rows() [][]int {
	return [][]int{
		row(300, func(i, _ int) int { return i }),
		row(300, func(i, _ int) int { return 299 - i }),
		row(300, func(i, _ int) int { return i / 2 }),
		row(300, func(i, _ int) int { return i ^ 1 }),
		row(300, func(i, _ int) int { return i ^ 63 }),
		row(300, func(i, _ int) int { return i * 37 % 301 }),
		row(300, func(i, _ int) int { return 64 * i }),
		row(300, func(i, _ int) int { return 63 * (i / 2) }),
		row(3000, func(i, chance int) int { return chance % 100 }),
		row(3000, func(i, chance int) int { return i + chance%70 - 69 }),
		row(3000, func(i, chance int) int { return i/3 + chance%130 - 65 }),
		row(3000, func(_, chance int) int { return chance }),
		row(3000, func(_, chance int) int { return chance * 65537 }),
		row(3000, func(i, chance int) int { return last - 900 + i/3 + chance%70 - 35 }),
		row(300, func(i, _ int) int { return last - 150 + i }),
		row(300, func(i, _ int) int { return last + 150 - i }),
	}
}

// P10.2: along a row of numbers none is new twice, one above all that were is, one 64 or more below the greatest is not, and what is between is just the first time.
func TestOnce(t *testing.T) {
	for i, numbers := range rows() {
		w := api.Window{}
		were := map[int]bool{}
		greatest := -1
		for _, n := range numbers {
			wanted := n >= 0 && n <= last && !were[n] && n > greatest-64
			before := w
			var ok bool
			if w, ok = window.See(w, n); ok != wanted {
				t.Fatalf("row %d, behind the greatest one %d: %d is new: %v, want %v", i, greatest, n, ok, wanted)
			}
			if !ok && w != before {
				t.Fatalf("row %d: %d is not new, and %+v became %+v", i, n, before, w)
			}
			if ok {
				were[n] = true
				greatest = max(greatest, n)
			}
			if w.Any != (greatest >= 0) || w.Any && w.High != greatest {
				t.Fatalf("row %d: behind the greatest one %d the window is %+v", i, greatest, w)
			}
		}
	}
}

// P10.2: of any window, what is new is not new again, whichever numbers come between.
func TestNotAgain(t *testing.T) {
	for _, high := range highs() {
		for _, bits := range fields() {
			for _, n := range []int{0, 1, high - 63, high - 1, high, high + 1, high + 64, last} {
				w, ok := window.See(seen(high, bits), n)
				if !ok {
					continue
				}
				for _, up := range []int{0, 1, 62, 1, 1, 100, last} {
					checkNot(t, w, n)
					w, _ = window.See(w, w.High+up)
				}
			}
		}
	}
}

// P10.2: behind MaxSeq no number is above, and those at most 63 below it are new once.
func TestEnd(t *testing.T) {
	w, ok := window.See(api.Window{}, last)
	if !ok {
		t.Fatalf("%d is not new", last)
	}
	for n := last + 1; n < last+200; n++ {
		checkNot(t, w, n)
	}
	for n := last - 200; n < last; n++ {
		next, ok := window.See(w, n)
		if ok != (n >= last-63) {
			t.Errorf("%d is new: %v", n, ok)
		}
		w = next
	}
	if w != seen(last, 1<<64-1) {
		t.Errorf("behind all of them the window is %+v", w)
	}
}

// R1 and R6: whatever a window and a number are, the call ends, and answers the same again, at the same time too.
func TestSameAgain(t *testing.T) {
	var group sync.WaitGroup
	for range 4 {
		group.Go(func() {
			for _, high := range highs() {
				for _, n := range highs() {
					w := seen(high, 5)
					want, isNew := plain(w, n)
					for range 2 {
						if got, ok := window.See(w, n); got != want || ok != isNew {
							t.Errorf("See(%+v, %d) = %+v, %v, want %+v, %v", w, n, got, ok, want, isNew)
						}
					}
				}
			}
		})
	}
	group.Wait()
}
