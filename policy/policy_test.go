package policy_test

import (
	"bytes"
	"math"
	"testing"

	"sidestick/api"
	"sidestick/policy"
)

const (
	most  = math.MaxInt
	least = math.MinInt
)

// far are numbers that nothing in a policy may be.
var far = []int{least, least + 1, -1 << 32, -2, -1, 65536, 1 << 32, most - 1, most}

// usual is a policy that may be, with nothing at an edge.
func usual() api.Policy {
	p := api.Policy{
		Order:  [api.Sources]int{0, 1, 2, 3, 4},
		Keys:   [api.Links][]byte{{1, 2}, {3, 4, 5}, {6, 7, 8, 9}},
		Master: []byte("master"),
		Roles:  [api.Sources]int{1, 2, 4, 10, 0},
		Start:  api.MoAssist, Safe: api.MoReturn, Lost: api.MoLoiter,
		Beat: 10, Lose: 20, Offer: 30, Ask: 40,
		Stick: 5, Beyond: 300,
		Queue: 2, Sessions: 2,
		Most:  [api.Classes]int{0, 100, 200, 300},
		Rate:  50,
		Epoch: 7,
	}
	for m := range p.Table {
		p.Table[m] = [api.Roles]int{15, 7, 3, 0}
		p.Graph[m] = 1 << m
	}
	return p
}

// number is one of a policy's numbers, what it may be, and what is told if it is not.
type number struct {
	name      string
	of        func(p *api.Policy) *int
	low, high int
	code      api.Errno
}

// numbers are those of which each may be whatever is from a low one to a high one, in the order in which they are looked at.
func numbers() []number {
	var all []number
	for m := range api.Modes {
		for r := range api.Roles {
			all = append(all, number{"Table", func(p *api.Policy) *int { return &p.Table[m][r] }, 0, 15, api.ErrCaps})
		}
	}
	for m := range api.Modes {
		all = append(all, number{"Graph", func(p *api.Policy) *int { return &p.Graph[m] }, 0, 31, api.ErrGraph})
	}
	return append(all,
		number{"Start", func(p *api.Policy) *int { return &p.Start }, 0, 4, api.ErrModes},
		number{"Safe", func(p *api.Policy) *int { return &p.Safe }, 0, 4, api.ErrModes},
		number{"Lost", func(p *api.Policy) *int { return &p.Lost }, 0, 4, api.ErrModes},
		number{"Beat", func(p *api.Policy) *int { return &p.Beat }, 1, 1000, api.ErrTicks},
		number{"Lose", func(p *api.Policy) *int { return &p.Lose }, 1, 1000, api.ErrTicks},
		number{"Offer", func(p *api.Policy) *int { return &p.Offer }, 1, 1000, api.ErrTicks},
		number{"Ask", func(p *api.Policy) *int { return &p.Ask }, 1, 1000, api.ErrTicks},
		number{"Stick", func(p *api.Policy) *int { return &p.Stick }, 1, 1000, api.ErrStick},
		number{"Beyond", func(p *api.Policy) *int { return &p.Beyond }, 0, 1000, api.ErrStick},
		number{"Queue", func(p *api.Policy) *int { return &p.Queue }, 1, 3, api.ErrRoom},
		number{"Sessions", func(p *api.Policy) *int { return &p.Sessions }, 1, 3, api.ErrRoom},
		number{"Most of ClMode", func(p *api.Policy) *int { return &p.Most[0] }, 0, 0, api.ErrLimits},
		number{"Most of ClRate", func(p *api.Policy) *int { return &p.Most[1] }, 0, 1000, api.ErrLimits},
		number{"Most of ClSpeed", func(p *api.Policy) *int { return &p.Most[2] }, 0, 1000, api.ErrLimits},
		number{"Most of ClPlace", func(p *api.Policy) *int { return &p.Most[3] }, 0, 1000, api.ErrLimits},
		number{"Rate", func(p *api.Policy) *int { return &p.Rate }, 1, 1000, api.ErrLimits},
		number{"Epoch", func(p *api.Policy) *int { return &p.Epoch }, 0, 65535, api.ErrEpochs},
	)
}

// may tells what is told of a policy in which one thing alone is as the test made it.
func may(so bool, code api.Errno) api.Errno {
	if so {
		return api.OK
	}
	return code
}

// The chapter's example.
func TestExample(t *testing.T) {
	if e := policy.Check(api.Policy{}); e != api.ErrOrder {
		t.Errorf("a policy of noughts: %d, want ErrOrder", e)
	}
}

// P12.1: nothing is wrong.
func TestUsual(t *testing.T) {
	if e := policy.Check(usual()); e != api.OK {
		t.Errorf("the usual policy: %d, want OK", e)
	}
}

// P12.1: all numbers at once at their low edges, and at their high ones.
func TestAllAtEdges(t *testing.T) {
	low, high := usual(), usual()
	for _, n := range numbers() {
		*n.of(&low), *n.of(&high) = n.low, n.high
	}
	low.Roles, high.Roles = [api.Sources]int{1, 0, 0, 0, 0}, [api.Sources]int{1, 14, 14, 14, 0}
	for i := range low.Keys {
		low.Keys[i], high.Keys[i] = make([]byte, 1), make([]byte, 64)
	}
	low.Master, high.Master = make([]byte, 1), make([]byte, 64)
	if e := policy.Check(low); e != api.OK {
		t.Errorf("all at the low edges: %d, want OK", e)
	}
	if e := policy.Check(high); e != api.OK {
		t.Errorf("all at the high edges: %d, want OK", e)
	}
}

// P12.1: every order of numbers from -1 to 5, and such as have a far number in one place.
func TestOrder(t *testing.T) {
	right := map[[api.Sources]int]bool{
		{0, 1, 2, 3, 4}: true,
		{0, 1, 3, 2, 4}: true,
		{0, 2, 1, 3, 4}: true,
		{0, 2, 3, 1, 4}: true,
		{0, 3, 1, 2, 4}: true,
		{0, 3, 2, 1, 4}: true,
	}
	p, seen := usual(), 0
	for n := range 7 * 7 * 7 * 7 * 7 {
		for i := range p.Order {
			p.Order[i] = n%7 - 1
			n /= 7
		}
		want := may(right[p.Order], api.ErrOrder)
		if e := policy.Check(p); e != want {
			t.Errorf("Order %v: %d, want %d", p.Order, e, want)
		}
		if want == api.OK {
			seen++
		}
	}
	if seen != len(right) {
		t.Errorf("%d orders that may be were tried, not %d", seen, len(right))
	}
	for i := range p.Order {
		for _, x := range far {
			p := usual()
			p.Order[i] = x
			if e := policy.Check(p); e != api.ErrOrder {
				t.Errorf("Order %v: %d, want ErrOrder", p.Order, e)
			}
		}
	}
}

// P12.1: each key, and Master, of each length, whatever its bytes.
func TestKeys(t *testing.T) {
	for n := range 70 {
		for _, of := range []func(p *api.Policy) *[]byte{
			func(p *api.Policy) *[]byte { return &p.Keys[0] },
			func(p *api.Policy) *[]byte { return &p.Keys[1] },
			func(p *api.Policy) *[]byte { return &p.Keys[2] },
			func(p *api.Policy) *[]byte { return &p.Master },
		} {
			for _, fill := range []byte{0, 255} {
				p := usual()
				*of(&p) = bytes.Repeat([]byte{fill}, n)
				want := may(1 <= n && n <= 64, api.ErrKey)
				if e := policy.Check(p); e != want {
					t.Errorf("a key of %d bytes: %d, want %d", n, e, want)
				}
				*of(&p) = nil
				if e := policy.Check(p); e != api.ErrKey {
					t.Errorf("a key that is nil: %d, want ErrKey", e)
				}
				*of(&p) = make([]byte, 0, 64)
				if e := policy.Check(p); e != api.ErrKey {
					t.Errorf("an empty key with room: %d, want ErrKey", e)
				}
			}
		}
	}
}

// P12.1: the same bytes may be every key.
func TestKeysAlike(t *testing.T) {
	p, key := usual(), []byte{1}
	p.Keys, p.Master = [api.Links][]byte{key, key, key}, key
	if e := policy.Check(p); e != api.OK {
		t.Errorf("keys that are alike: %d, want OK", e)
	}
}

// P12.1: the roles of each source, each number from -40 to 40, and far ones.
func TestRoles(t *testing.T) {
	sets := append([]int{}, far...)
	for set := -40; set <= 40; set++ {
		sets = append(sets, set)
	}
	for source := range api.Sources {
		for _, set := range sets {
			p := usual()
			p.Roles[source] = set
			want := may(rolesByHand(source, set), api.ErrRoles)
			if e := policy.Check(p); e != want {
				t.Errorf("Roles %d of source %d: %d, want %d", set, source, e, want)
			}
		}
	}
}

// rolesByHand lists the sets one by one.
func rolesByHand(source, set int) bool {
	switch source {
	case 0:
		return set == 1
	case 4:
		return set == 0
	}
	switch set {
	case 0, 2, 4, 6, 8, 10, 12, 14:
		return true
	}
	return false
}

// P12.1: each other number at its edges, within them, beyond them, and far off.
func TestNumbers(t *testing.T) {
	for i, n := range numbers() {
		tried := append([]int{n.low - 1, n.low, (n.low + n.high) / 2, n.high, n.high + 1, n.high + 2}, far...)
		for _, x := range tried {
			p := usual()
			*n.of(&p) = x
			want := may(n.low <= x && x <= n.high, n.code)
			if e := policy.Check(p); e != want {
				t.Errorf("%s (number %d) %d: %d, want %d", n.name, i, x, e, want)
			}
		}
	}
}

// P12.1: what the times, the modes and the limits are beside each other does not count.
func TestNoneHangsOnAnother(t *testing.T) {
	for _, x := range []struct {
		name string
		make func(p *api.Policy)
	}{
		{"all modes the same", func(p *api.Policy) { p.Start, p.Safe, p.Lost = 0, 0, 0 }},
		{"no mode follows", func(p *api.Policy) { p.Graph = [api.Modes]int{} }},
		{"no role may do anything", func(p *api.Policy) { p.Table = [api.Modes][api.Roles]int{} }},
		{"the watcher may do all", func(p *api.Policy) { p.Table[0][api.RoWatch] = 15 }},
		{"more may wait than be logged in", func(p *api.Policy) { p.Queue, p.Sessions = 3, 1 }},
		{"a rate above all limits", func(p *api.Policy) { p.Most, p.Rate = [api.Classes]int{}, 1000 }},
		{"a Lose below Beat", func(p *api.Policy) { p.Beat, p.Lose = 1000, 1 }},
	} {
		p := usual()
		x.make(&p)
		if e := policy.Check(p); e != api.OK {
			t.Errorf("%s: %d, want OK", x.name, e)
		}
	}
}

// fault is one thing that is wrong.
type fault struct {
	code api.Errno
	make func(p *api.Policy)
}

// faults are at least one of each code, each at a place of its own.
func faults() []fault {
	all := []fault{
		{api.ErrOrder, func(p *api.Policy) { p.Order[0] = 4 }},
		{api.ErrOrder, func(p *api.Policy) { p.Order[2] = 1 }},
		{api.ErrOrder, func(p *api.Policy) { p.Order[4] = 0 }},
		{api.ErrKey, func(p *api.Policy) { p.Keys[0] = nil }},
		{api.ErrKey, func(p *api.Policy) { p.Keys[2] = make([]byte, 65) }},
		{api.ErrKey, func(p *api.Policy) { p.Master = nil }},
		{api.ErrRoles, func(p *api.Policy) { p.Roles[0] = 0 }},
		{api.ErrRoles, func(p *api.Policy) { p.Roles[2] = 16 }},
		{api.ErrRoles, func(p *api.Policy) { p.Roles[3] = 1 }},
		{api.ErrRoles, func(p *api.Policy) { p.Roles[4] = 8 }},
	}
	for _, n := range numbers() {
		all = append(all,
			fault{n.code, func(p *api.Policy) { *n.of(p) = n.low - 1 }},
			fault{n.code, func(p *api.Policy) { *n.of(p) = n.high + 1 }})
	}
	return all
}

// P12.3: of each two faults the code that stands first in the table, which is the lower one.
func TestFirstOfTwo(t *testing.T) {
	all := faults()
	seen := map[api.Errno]bool{}
	for _, one := range all {
		seen[one.code] = true
		for _, other := range all {
			p := usual()
			one.make(&p)
			other.make(&p)
			want := min(one.code, other.code)
			if e := policy.Check(p); e != want {
				t.Errorf("%d and %d are wrong: %d, want %d", one.code, other.code, e, want)
			}
		}
	}
	for code := api.ErrOrder; code <= api.ErrEpochs; code++ {
		if !seen[code] {
			t.Errorf("no fault of code %d was tried", code)
		}
	}
}

// P12.3: of all faults from each one on, the first.
func TestFirstOfMany(t *testing.T) {
	all := faults()
	p := usual()
	for i := len(all) - 1; i >= 0; i-- {
		all[i].make(&p)
		if e := policy.Check(p); e != all[i].code {
			t.Errorf("all faults from %d on: %d, want %d", i, e, all[i].code)
		}
	}
}

// P12.2: field by field, in numbers.
func TestFixed(t *testing.T) {
	want := api.Act{
		Mode: 4, Class: 1, Out: [api.Axes]int{0, 0, 0, 0},
		ModeBy:  api.Label{Rule: 2, Source: 4, Seq: 0},
		PointBy: api.Label{Rule: 2, Source: 4, Seq: 0},
	}
	for range 3 {
		if a := policy.Fixed(); a != want {
			t.Errorf("Fixed() = %+v, want %+v", a, want)
		}
	}
}

// P12.2, R7: who changes a Fixed changes no other one.
func TestFixedIsTheCallers(t *testing.T) {
	a := policy.Fixed()
	want := a
	a.Mode, a.Out[0], a.ModeBy.Seq = 0, 9, 9
	if b := policy.Fixed(); b != want {
		t.Errorf("Fixed() = %+v behind a change of another one", b)
	}
}

// R6, R7: Check tells the same again, whatever was asked between, and changes no key.
func TestCheckChangesNothing(t *testing.T) {
	p := usual()
	whole := append(append([]byte{}, p.Master...), 9, 9)
	p.Master = whole[:len(whole)-2]
	for i, f := range faults() {
		wrong := usual()
		f.make(&wrong)
		first := policy.Check(wrong)
		if e := policy.Check(p); e != api.OK {
			t.Errorf("behind fault %d: %d, want OK", i, e)
		}
		if again := policy.Check(wrong); again != first {
			t.Errorf("fault %d: %d, then %d", i, first, again)
		}
	}
	if string(whole) != "master\x09\x09" {
		t.Errorf("Master is %q now", whole)
	}
	for i, key := range usual().Keys {
		if !bytes.Equal(p.Keys[i], key) {
			t.Errorf("key %d is %v now", i, p.Keys[i])
		}
	}
}

// R1: a policy of far numbers alone, of nil keys, and of long ones, is told to be wrong.
func TestFarOff(t *testing.T) {
	for _, x := range far {
		p := usual()
		for _, n := range numbers() {
			*n.of(&p) = x
		}
		if e := policy.Check(p); e != api.ErrCaps {
			t.Errorf("all numbers %d: %d, want ErrCaps", x, e)
		}
	}
	p := usual()
	p.Master = make([]byte, 1<<20)
	if e := policy.Check(p); e != api.ErrKey {
		t.Errorf("a Master of 2^20 bytes: %d, want ErrKey", e)
	}
}
