package tick_test

import (
	"math"
	"math/big"
	"testing"

	"sidestick/api"
	"sidestick/tick"
)

const (
	most  = math.MaxInt
	least = math.MinInt
)

// edges are numbers at which something could go round, or be off by one.
var edges = []int{least, least + 1, least / 2, -1001, -1000, -2, -1, 0, 1, 2, 3, 999, 1000, 1001, 1 << 32, most / 2, most - 1, most}

// P11.1: the chapter's example, and a step more.
func TestExample(t *testing.T) {
	x := tick.Start(2)
	for i, want := range []struct {
		timer api.Timer
		due   bool
	}{
		{api.Timer{At: 0, Most: 2}, false},
		{api.Timer{At: 1, Most: 2}, false},
		{api.Timer{At: 2, Most: 2}, true},
		{api.Timer{At: 2, Most: 2}, true},
	} {
		if x != want.timer || tick.Due(x) != want.due {
			t.Errorf("behind %d steps: %+v, due %v, want %+v, %v", i, x, tick.Due(x), want.timer, want.due)
		}
		x = tick.Step(x)
	}
}

// P11.1: a most from 0 on is kept, whatever it is; one below 0 is 0.
func TestStart(t *testing.T) {
	for _, x := range []struct{ most, want int }{
		{0, 0},
		{1, 1},
		{2, 2},
		{999, 999},
		{1000, 1000},
		{1001, 1001},
		{1 << 32, 1 << 32},
		{most - 1, most - 1},
		{most, most},
		{-1, 0},
		{-2, 0},
		{-1000, 0},
		{-1 << 32, 0},
		{least + 1, 0},
		{least, 0},
	} {
		if got := tick.Start(x.most); got != (api.Timer{At: 0, Most: x.want}) {
			t.Errorf("Start(%d) = %+v, want Most %d", x.most, got, x.want)
		}
	}
}

// P11.1: below Most it is one more, at and above it Most, which may be below 0, as that of no timer that was started.
func TestStep(t *testing.T) {
	for _, x := range []struct{ at, most, want int }{
		{0, 0, 0},
		{0, 1, 1},
		{1, 1, 1},
		{0, 3, 1},
		{1, 3, 2},
		{2, 3, 3},
		{3, 3, 3},
		{4, 3, 3},
		{9, 4, 4},
		{1, 0, 0},
		{-1, 0, 0},
		{-2, 0, -1},
		{-5, 3, -4},
		{0, -1, -1},
		{9, -4, -4},
		{-4, -4, -4},
		{-5, -4, -4},
		{-9, -4, -8},
		{most - 1, most, most},
		{most, most, most},
		{most, most - 1, most - 1},
		{most, 0, 0},
		{most, least, least},
		{least, most, least + 1},
		{least, least + 1, least + 1},
		{least, least, least},
	} {
		got, want := tick.Step(api.Timer{At: x.at, Most: x.most}), api.Timer{At: x.want, Most: x.most}
		if got != want {
			t.Errorf("Step of At %d, Most %d = %+v, want %+v", x.at, x.most, got, want)
		}
	}
}

// P11.1: not below Most is at it, or above it.
func TestDue(t *testing.T) {
	for _, x := range []struct {
		at, most int
		want     bool
	}{
		{0, 0, true},
		{0, 1, false},
		{1, 1, true},
		{2, 1, true},
		{1, 2, false},
		{999, 1000, false},
		{1000, 1000, true},
		{1001, 1000, true},
		{-1, 0, false},
		{0, -1, true},
		{-2, -1, false},
		{-1, -1, true},
		{-1, -2, true},
		{most - 1, most, false},
		{most, most, true},
		{most, least, true},
		{least, most, false},
		{least, least, true},
		{least, least + 1, false},
		{least + 1, least, true},
	} {
		if got := tick.Due(api.Timer{At: x.at, Most: x.most}); got != x.want {
			t.Errorf("Due of At %d, Most %d = %v", x.at, x.most, got)
		}
	}
}

// P11.1: against numbers without an end, whatever the two are.
func TestAnyTimer(t *testing.T) {
	for _, at := range edges {
		for _, end := range edges {
			x := api.Timer{At: at, Most: end}
			a, m := big.NewInt(int64(at)), big.NewInt(int64(end))
			due := a.Cmp(m) >= 0
			if a.Add(a, big.NewInt(1)).Cmp(m) > 0 {
				a = m
			}
			if got, want := tick.Step(x), (api.Timer{At: int(a.Int64()), Most: end}); got != want {
				t.Errorf("Step(%+v) = %+v, want %+v", x, got, want)
			}
			if got := tick.Due(x); got != due {
				t.Errorf("Due(%+v) = %v", x, got)
			}
		}
	}
}

// P11.2: what was started is not due behind fewer steps than it was told, is behind just as many, and stays so.
func TestDueBehindSteps(t *testing.T) {
	for many := range api.MaxTicks + 2 {
		x := tick.Start(many)
		for i := range many {
			if tick.Due(x) {
				t.Fatalf("Start(%d) is due behind %d steps", many, i)
			}
			x = tick.Step(x)
		}
		checkStays(t, many, x)
	}
}

// P11.2: what is told a time below 0 is due behind no step, and stays so.
func TestDueAtOnce(t *testing.T) {
	for _, many := range []int{0, -1, -2, -1000, least + 1, least} {
		checkStays(t, many, tick.Start(many))
	}
}

// P11.2: as many steps as no test can take: near their end a timer is not due, then it is.
func TestDueBehindMost(t *testing.T) {
	for _, many := range []int{1 << 31, 1 << 32, most - 1, most} {
		x := tick.Start(many)
		x.At = many - 3
		for range 3 {
			if tick.Due(x) {
				t.Fatalf("Start(%d) is due at %d", many, x.At)
			}
			x = tick.Step(x)
		}
		checkStays(t, many, x)
	}
}

// checkStays holds that a timer is due, and that steps change nothing of it any more.
func checkStays(t *testing.T, many int, x api.Timer) {
	t.Helper()
	for i := range 70 {
		if !tick.Due(x) {
			t.Fatalf("Start(%d): %+v is not due %d steps behind its time", many, x, i)
		}
		next := tick.Step(x)
		if next != x {
			t.Fatalf("Start(%d): behind its time %+v became %+v", many, x, next)
		}
		x = next
	}
}

// R1 and R6: every call ends, whatever it is given, and answers the same again, whatever was asked between.
func TestSameAgain(t *testing.T) {
	for _, at := range edges {
		for _, end := range edges {
			x := api.Timer{At: at, Most: end}
			started, stepped, due := tick.Start(at), tick.Step(x), tick.Due(x)
			tick.Step(tick.Start(end))
			if tick.Start(at) != started || tick.Step(x) != stepped || tick.Due(x) != due {
				t.Errorf("of %+v a call answers otherwise the second time", x)
			}
		}
	}
}

// R1: the zero timer is due, as one of no ticks is, and steps leave it zero.
func TestZero(t *testing.T) {
	checkStays(t, 0, api.Timer{})
}
