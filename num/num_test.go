package num_test

import (
	"math"
	"math/big"
	"testing"

	"sidestick/num"
)

const (
	most  = math.MaxInt
	least = math.MinInt
)

// edges are numbers at which something could go round, or be off by one.
var edges = []int{least, least + 1, least / 2, -1000, -64, -8, -2, -1, 0, 1, 2, 7, 62, 63, 64, 1000, most / 2, most/2 + 1, most - 1, most}

// P1.1: the chapter's examples, n at, below and above most, and the ends of 64 bits.
func TestSat(t *testing.T) {
	for _, x := range []struct{ n, most, want int }{
		{3, 4, 4},
		{4, 4, 4},
		{9, 4, 4},
		{0, 4, 1},
		{-1, 0, 0},
		{0, 0, 0},
		{0, -1, -1},
		{-9, -4, -8},
		{-4, -9, -9},
		{most - 1, most, most},
		{most, most, most},
		{most, most - 1, most - 1},
		{least, most, least + 1},
		{least, least, least},
		{least, least + 1, least + 1},
		{most, least, least},
	} {
		if got := num.Sat(x.n, x.most); got != x.want {
			t.Errorf("Sat(%d, %d) = %d, want %d", x.n, x.most, got, x.want)
		}
	}
}

// P1.1: a count comes to most by ones, and stays there.
func TestSatCounts(t *testing.T) {
	n := -3
	for i := -2; i <= 5; i++ {
		if n = num.Sat(n, 5); n != i {
			t.Fatalf("counted %d, want %d", n, i)
		}
	}
	for range 3 {
		if n = num.Sat(n, 5); n != 5 {
			t.Fatalf("went on to %d from 5", n)
		}
	}
}

// P1.1: within, at and beyond both bounds; bounds that are the same, or the wrong way round.
func TestClamp(t *testing.T) {
	for _, x := range []struct{ n, low, high, want int }{
		{5, 0, 9, 5},
		{0, 0, 9, 0},
		{9, 0, 9, 9},
		{-1, 0, 9, 0},
		{10, 0, 9, 9},
		{-5, -9, -2, -5},
		{-10, -9, -2, -9},
		{-1, -9, -2, -2},
		{3, 4, 4, 4},
		{4, 4, 4, 4},
		{5, 4, 4, 4},
		{-1, 9, 0, 9},
		{0, 9, 0, 9},
		{5, 9, 0, 9},
		{8, 9, 0, 9},
		{9, 9, 0, 0},
		{12, 9, 0, 0},
		{least, least, most, least},
		{most, least, most, most},
		{least, -7, 7, -7},
		{most, -7, 7, 7},
		{0, most, least, most},
		{most, most, least, least},
	} {
		if got := num.Clamp(x.n, x.low, x.high); got != x.want {
			t.Errorf("Clamp(%d, %d, %d) = %d, want %d", x.n, x.low, x.high, got, x.want)
		}
	}
}

// P1.2: the chapter's examples, a by below 1, a to that is just as far as by, one nearer and one farther, both ways.
func TestToward(t *testing.T) {
	for _, x := range []struct{ now, to, by, want int }{
		{0, -7, 5, -5},
		{-5, -7, 5, -7},
		{0, 7, 5, 5},
		{5, 7, 5, 7},
		{3, 3, 9, 3},
		{3, 3, 0, 3},
		{3, 3, -1, 3},
		{1, 9, 0, 1},
		{9, 1, 0, 9},
		{1, 9, -1, 1},
		{9, 1, -8, 9},
		{1, 9, least, 1},
		{9, 1, least, 9},
		{1, 9, 1, 2},
		{9, 1, 1, 8},
		{8, 9, 1, 9},
		{9, 8, 1, 8},
		{1, 9, 7, 8},
		{1, 9, 8, 9},
		{1, 9, 9, 9},
		{9, 1, 7, 2},
		{9, 1, 8, 1},
		{9, 1, 9, 1},
		{-4, 4, 7, 3},
		{4, -4, 7, -3},
	} {
		if got := num.Toward(x.now, x.to, x.by); got != x.want {
			t.Errorf("Toward(%d, %d, %d) = %d, want %d", x.now, x.to, x.by, got, x.want)
		}
	}
}

// P1.2: nothing goes round where now and to are farther apart than an int can tell.
func TestTowardFarApart(t *testing.T) {
	for _, x := range []struct{ now, to, by, want int }{
		{least, most, most, -1},
		{most, least, most, 0},
		{least, most, 1, least + 1},
		{most, least, 1, most - 1},
		{least, most, 0, least},
		{most, least, least, most},
		{0, most, most, most},
		{-1, most, most, most - 1},
		{-2, most, most, most - 2},
		{0, least, most, least + 1},
		{-1, least, most, least},
		{1, least, most, least + 2},
		{least, 0, most, -1},
		{least, -1, most, -1},
		{most, 0, most, 0},
		{most, -1, most, 0},
		{most - 1, most, most, most},
		{least + 1, least, most, least},
	} {
		if got := num.Toward(x.now, x.to, x.by); got != x.want {
			t.Errorf("Toward(%d, %d, %d) = %d, want %d", x.now, x.to, x.by, got, x.want)
		}
	}
}

// towardWhole is P1.2 in numbers without an end.
func towardWhole(now, to, by int) int64 {
	n, o, b := big.NewInt(int64(now)), big.NewInt(int64(to)), big.NewInt(int64(by))
	way := new(big.Int).Sub(o, n)
	switch {
	case b.Sign() < 1:
		return n.Int64()
	case way.CmpAbs(b) <= 0:
		return o.Int64()
	case way.Sign() > 0:
		return n.Add(n, b).Int64()
	}
	return n.Sub(n, b).Int64()
}

// P1.2: as whole numbers, whatever the three are.
func TestTowardAsWholeNumbers(t *testing.T) {
	for _, now := range edges {
		for _, to := range edges {
			for _, by := range edges {
				if got, want := num.Toward(now, to, by), towardWhole(now, to, by); int64(got) != want {
					t.Errorf("Toward(%d, %d, %d) = %d, want %d", now, to, by, got, want)
				}
			}
		}
	}
}

// P1.3: the chapter's examples, an i below 0 and above 62, a set below 0.
func TestHas(t *testing.T) {
	for _, x := range []struct {
		set, i int
		want   bool
	}{
		{5, 0, true},
		{5, 1, false},
		{5, 2, true},
		{5, 3, false},
		{5, 62, false},
		{5, -1, false},
		{5, -62, false},
		{5, -64, false},
		{5, 64, false},
		{5, 66, false},
		{5, least, false},
		{5, most, false},
		{0, 0, false},
		{0, 62, false},
		{most, 0, true},
		{most, 61, true},
		{most, 62, true},
		{most, 63, false},
		{most, 64, false},
		{most, -1, false},
		{most, least, false},
		{most, most, false},
		{1 << 62, 62, true},
		{1 << 62, 61, false},
		{1<<62 - 1, 62, false},
		{-1, 0, false},
		{-1, 62, false},
		{-1, 63, false},
		{-2, 1, false},
		{least, 0, false},
		{least, 62, false},
		{least, 63, false},
		{least, -1, false},
		{least + 1, 0, false},
	} {
		if got := num.Has(x.set, x.i); got != x.want {
			t.Errorf("Has(%d, %d) = %v, want %v", x.set, x.i, got, x.want)
		}
	}
}

// P1.3: each of the places 0 to 62 is told apart from all others; no other place, and no set below 0, has any.
func TestHasEachPlace(t *testing.T) {
	for bit := 0; bit <= 62; bit++ {
		one := 1 << bit
		for i := -70; i <= 140; i++ {
			if got, want := num.Has(one, i), i == bit; got != want {
				t.Errorf("Has(%d, %d) = %v, want %v", one, i, got, want)
			}
			if got, want := num.Has(most-one, i), i >= 0 && i <= 62 && i != bit; got != want {
				t.Errorf("Has(%d, %d) = %v, want %v", most-one, i, got, want)
			}
			if num.Has(-one, i) {
				t.Errorf("Has(%d, %d) = true of a set below 0", -one, i)
			}
		}
	}
}

// steps is how many of by there are from now to to, the last one perhaps smaller.
func steps(now, to, by int) int {
	way := new(big.Int).Sub(big.NewInt(int64(to)), big.NewInt(int64(now)))
	way.Abs(way)
	way.Add(way, big.NewInt(int64(by-1)))
	return int(way.Div(way, big.NewInt(int64(by))).Int64())
}

// P1.4: each step is nearer and not beyond; to is there behind just as many steps as it takes, and stays.
func TestTowardComesThere(t *testing.T) {
	for _, x := range []struct{ now, to, by int }{
		{0, 0, 1},
		{0, 100, 1},
		{0, -100, 1},
		{0, 100, 30},
		{0, -100, 30},
		{-40, 41, 9},
		{41, -40, 9},
		{-1000, 1000, 1000},
		{1000, -1000, 999},
		{5, 6, most},
		{least, most, most},
		{most, least, most},
		{least, most, most / 3},
		{most, least, most / 3},
		{least, least + 50, 7},
		{most, most - 50, 7},
		{most - 50, most, 7},
		{least + 50, least, 7},
	} {
		goThere(t, x.now, x.to, x.by)
	}
}

func goThere(t *testing.T, now, to, by int) {
	t.Helper()
	need := steps(now, to, by)
	at := now
	for i := 1; i <= need; i++ {
		next := num.Toward(at, to, by)
		up, down := at < next && next <= to, at > next && next >= to
		if !up && !down {
			t.Errorf("from %d to %d by %d: step %d went from %d to %d", now, to, by, i, at, next)
			return
		}
		if i < need && next == to {
			t.Errorf("from %d to %d by %d: there behind %d steps, want %d", now, to, by, i, need)
			return
		}
		at = next
	}
	if at != to {
		t.Errorf("from %d to %d by %d: at %d behind %d steps", now, to, by, at, need)
	}
	if next := num.Toward(to, to, by); next != to {
		t.Errorf("from %d to %d by %d: did not stay, but went to %d", now, to, by, next)
	}
}

// R1 and R6: every call ends, whatever it is given, and answers the same again.
func TestAnyArguments(t *testing.T) {
	for _, a := range edges {
		for _, b := range edges {
			if num.Sat(a, b) != num.Sat(a, b) || num.Has(a, b) != num.Has(a, b) {
				t.Errorf("Sat or Has of %d, %d answers otherwise the second time", a, b)
			}
			for _, c := range edges {
				if num.Clamp(a, b, c) != num.Clamp(a, b, c) || num.Toward(a, b, c) != num.Toward(a, b, c) {
					t.Errorf("Clamp or Toward of %d, %d, %d answers otherwise the second time", a, b, c)
				}
			}
		}
	}
}
