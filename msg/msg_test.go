package msg_test

import (
	"bytes"
	"math"
	"slices"
	"sync"
	"testing"

	"sidestick/api"
	"sidestick/msg"
)

// written are messages of each Kind, with the bytes written out.
func written() []struct {
	m api.Msg
	b []byte
} {
	return []struct {
		m api.Msg
		b []byte
	}{
		{api.Msg{Kind: api.MgMode, Seq: 5, Epoch: 258, Mode: 3}, []byte{10, 0, 0, 0, 5, 1, 2, 3}}, // the chapter's example
		{api.Msg{Kind: api.MgHello}, []byte{1, 0}},
		{api.Msg{Kind: api.MgHello, Role: 3}, []byte{1, 3}},
		{api.Msg{Kind: api.MgProve}, []byte{2, 0}},
		{api.Msg{Kind: api.MgProve, Role: 1}, []byte{2, 1}},
		{api.Msg{Kind: api.MgBeat}, []byte{3, 0, 0, 0, 0}},
		{api.Msg{Kind: api.MgBeat, Seq: 0x01020304}, []byte{3, 1, 2, 3, 4}},
		{api.Msg{Kind: api.MgBye, Seq: 255}, []byte{4, 0, 0, 0, 255}},
		{api.Msg{Kind: api.MgBye, Seq: 4294967295}, []byte{4, 255, 255, 255, 255}},
		{api.Msg{Kind: api.MgAsk, Seq: 256}, []byte{5, 0, 0, 1, 0, 0}},
		{api.Msg{Kind: api.MgAsk, Seq: 65536, Now: true}, []byte{5, 0, 1, 0, 0, 1}},
		{api.Msg{Kind: api.MgOffer, Seq: 1 << 31, To: 4}, []byte{6, 128, 0, 0, 0, 4}},
		{api.Msg{Kind: api.MgOffer}, []byte{6, 0, 0, 0, 0, 0}},
		{api.Msg{Kind: api.MgAccept, Seq: 1, Epoch: 65535}, []byte{7, 0, 0, 0, 1, 255, 255}},
		{api.Msg{Kind: api.MgAccept, Seq: 2}, []byte{7, 0, 0, 0, 2, 0, 0}},
		{api.Msg{Kind: api.MgDeny, Seq: 3}, []byte{8, 0, 0, 0, 3}},
		{api.Msg{Kind: api.MgRelease, Seq: 4}, []byte{9, 0, 0, 0, 4}},
		{api.Msg{Kind: api.MgMode, Epoch: 1, Mode: 4}, []byte{10, 0, 0, 0, 0, 0, 1, 4}},
		{api.Msg{Kind: api.MgMode}, []byte{10, 0, 0, 0, 0, 0, 0, 0}},
		{api.Msg{Kind: api.MgPoint, Class: 1}, []byte{11, 0, 0, 0, 0, 0, 0, 1, 0, 0, 0, 0, 0, 0, 0, 0}},
		{
			api.Msg{Kind: api.MgPoint, Seq: 0x0a0b0c0d, Epoch: 0x0e0f, Class: 3, X: [api.Axes]int{1, -1, 32767, -32768}},
			[]byte{11, 10, 11, 12, 13, 14, 15, 3, 0, 1, 255, 255, 127, 255, 128, 0},
		},
		{
			api.Msg{Kind: api.MgPoint, Class: 2, X: [api.Axes]int{-2, 258, -32767, 256}},
			[]byte{11, 0, 0, 0, 0, 0, 0, 2, 255, 254, 1, 2, 128, 1, 1, 0},
		},
	}
}

// checkPut holds Put against the chapter's words, and what it tells against Take.
func checkPut(t *testing.T, m api.Msg) {
	t.Helper()
	want := plainPut(messageKinds, m.Kind, messageParts(m))
	code := api.ErrArg
	if want != nil {
		code = api.OK
	}
	got, e := msg.Put(m)
	if !bytes.Equal(got, want) || e != code {
		t.Fatalf("Put(%+v) = %v, %d, want %v, %d", m, got, e, want, code)
	}
	if want == nil {
		return
	}
	if back, e := msg.Take(got); back != m || e != api.OK {
		t.Fatalf("Take(%v) = %+v, %d, want %+v, OK", got, back, e, m)
	}
}

// checkTake holds Take against the chapter's words, and what it tells against Put.
func checkTake(t *testing.T, b []byte) {
	t.Helper()
	got, e := msg.Take(b)
	kind, want, ok := plainTake(messageKinds, b, messageParts(api.Msg{}))
	if !ok {
		if got != (api.Msg{}) || e != api.ErrShape {
			t.Fatalf("Take(%v) = %+v, %d, want nothing, ErrShape", b, got, e)
		}
		return
	}
	if e != api.OK || got.Kind != kind || !sameParts(messageParts(got), want) {
		t.Fatalf("Take(%v) = %+v, %d, want %d %v, OK", b, got, e, kind, want)
	}
	if back, e := msg.Put(got); !bytes.Equal(back, b) || e != api.OK {
		t.Fatalf("Put(%+v) = %v, %d, want %v, OK", got, back, e, b)
	}
}

// messageFields are the places of a message's whole numbers.
func messageFields(m *api.Msg) []*int {
	return []*int{&m.Seq, &m.Role, &m.To, &m.Epoch, &m.Mode, &m.Class, &m.X[0], &m.X[1], &m.X[2], &m.X[3]}
}

// rightMessages are some messages of each Kind that may be put.
func rightMessages() []api.Msg {
	var l []api.Msg
	for _, x := range written() {
		l = append(l, x.m)
	}
	return l
}

// P8.1: messages of each Kind, with the bytes written out: put, and taken.
func TestMessages(t *testing.T) {
	for _, x := range written() {
		if got, e := msg.Put(x.m); !bytes.Equal(got, x.b) || e != api.OK {
			t.Errorf("Put(%+v) = %v, %d, want %v, OK", x.m, got, e, x.b)
		}
		if got, e := msg.Take(x.b); got != x.m || e != api.OK {
			t.Errorf("Take(%v) = %+v, %d, want %+v, OK", x.b, got, e, x.m)
		}
	}
}

// P8.1: a Kind that is none of a message's, a reply's among them, whatever else there is.
func TestPutNoKind(t *testing.T) {
	kinds := noKinds()
	for kind := range replyKinds {
		kinds = append(kinds, kind)
	}
	for _, kind := range kinds {
		for _, m := range append(rightMessages(), api.Msg{}) {
			m.Kind = kind
			if got, e := msg.Put(m); got != nil || e != api.ErrArg {
				t.Fatalf("Put(%+v) = %v, %d, want nil, ErrArg", m, got, e)
			}
		}
	}
}

// P8.1: each field of each Kind, named by it or not, at each number where a field, or a size, ends.
func TestPutEdges(t *testing.T) {
	for _, m := range rightMessages() {
		for i := range messageFields(&m) {
			for _, n := range edges() {
				x := m
				*messageFields(&x)[i] = n
				checkPut(t, x)
			}
		}
	}
}

// P8.1: a field that the Kind does not name is not zero, Now among them, of otherwise right messages: ErrArg each.
func TestPutUnnamed(t *testing.T) {
	for _, m := range []api.Msg{
		{Kind: api.MgHello, Role: 1, Seq: 1},
		{Kind: api.MgHello, Role: 1, Now: true},
		{Kind: api.MgProve, Role: 1, Class: 1},
		{Kind: api.MgBeat, Role: 1},
		{Kind: api.MgBeat, Now: true},
		{Kind: api.MgBye, Epoch: 1},
		{Kind: api.MgAsk, Now: true, To: 1},
		{Kind: api.MgOffer, To: 1, Now: true},
		{Kind: api.MgOffer, To: 1, Role: -1},
		{Kind: api.MgAccept, Epoch: 1, Mode: 1},
		{Kind: api.MgAccept, Epoch: 1, Mode: math.MinInt},
		{Kind: api.MgDeny, X: [api.Axes]int{1}},
		{Kind: api.MgRelease, X: [api.Axes]int{3: -1}},
		{Kind: api.MgMode, Mode: 1, Class: 1},
		{Kind: api.MgMode, Mode: 1, To: 256},
		{Kind: api.MgPoint, Class: 1, Mode: 1},
		{Kind: api.MgPoint, Class: 1, Now: true},
		{Kind: api.MgPoint, Class: 1, To: 1 << 32},
	} {
		if got, e := msg.Put(m); got != nil || e != api.ErrArg {
			t.Errorf("Put(%+v) = %v, %d, want nil, ErrArg", m, got, e)
		}
	}
}

// P8.1: fields that are not as the chapter asks, one beyond each end: ErrArg each; at each end: put.
func TestPutEnds(t *testing.T) {
	for _, x := range []struct {
		m           api.Msg
		at          func(m *api.Msg) *int
		least, most int
	}{
		{api.Msg{Kind: api.MgHello}, func(m *api.Msg) *int { return &m.Role }, 0, 3},
		{api.Msg{Kind: api.MgProve}, func(m *api.Msg) *int { return &m.Role }, 0, 3},
		{api.Msg{Kind: api.MgBeat}, func(m *api.Msg) *int { return &m.Seq }, 0, 4294967295},
		{api.Msg{Kind: api.MgBye}, func(m *api.Msg) *int { return &m.Seq }, 0, 4294967295},
		{api.Msg{Kind: api.MgDeny}, func(m *api.Msg) *int { return &m.Seq }, 0, 4294967295},
		{api.Msg{Kind: api.MgRelease}, func(m *api.Msg) *int { return &m.Seq }, 0, 4294967295},
		{api.Msg{Kind: api.MgAsk}, func(m *api.Msg) *int { return &m.Seq }, 0, 4294967295},
		{api.Msg{Kind: api.MgOffer}, func(m *api.Msg) *int { return &m.To }, 0, 4},
		{api.Msg{Kind: api.MgAccept}, func(m *api.Msg) *int { return &m.Epoch }, 0, 65535},
		{api.Msg{Kind: api.MgMode}, func(m *api.Msg) *int { return &m.Mode }, 0, 4},
		{api.Msg{Kind: api.MgMode}, func(m *api.Msg) *int { return &m.Epoch }, 0, 65535},
		{api.Msg{Kind: api.MgPoint}, func(m *api.Msg) *int { return &m.Class }, 1, 3},
		{api.Msg{Kind: api.MgPoint, Class: 1}, func(m *api.Msg) *int { return &m.X[0] }, -32768, 32767},
		{api.Msg{Kind: api.MgPoint, Class: 1}, func(m *api.Msg) *int { return &m.X[3] }, -32768, 32767},
	} {
		for _, n := range []int{x.least, x.most} {
			*x.at(&x.m) = n
			if got, e := msg.Put(x.m); got == nil || e != api.OK {
				t.Errorf("Put(%+v) = %v, %d, want bytes, OK", x.m, got, e)
			}
		}
		for _, n := range []int{x.least - 1, x.most + 1, math.MinInt, math.MaxInt} {
			*x.at(&x.m) = n
			if got, e := msg.Put(x.m); got != nil || e != api.ErrArg {
				t.Errorf("Put(%+v) = %v, %d, want nil, ErrArg", x.m, got, e)
			}
		}
	}
}

// P8.1: all bodies of up to two bytes, and of a Kind and two bytes more.
func TestTakeShort(t *testing.T) {
	checkTake(t, nil)
	checkTake(t, []byte{})
	for first := range 256 {
		checkTake(t, []byte{byte(first)})
		for second := range 256 {
			checkTake(t, []byte{byte(first), byte(second)})
			checkTake(t, []byte{byte(first), byte(second), 0})
		}
	}
}

// P8.1: each Kind, and each that is none, with as many bytes behind it as there may be, and more: noughts, ones, and mixed ones.
func TestTakeSizes(t *testing.T) {
	for first := range 256 {
		for size := range 40 {
			for _, rest := range [][]byte{make([]byte, size), bytes.Repeat([]byte{1}, size), bytes.Repeat([]byte{255}, size), mixed(size)} {
				checkTake(t, append([]byte{byte(first)}, rest...))
			}
		}
	}
}

// P8.1: each byte of right bodies, turned to each other one.
func TestTakeEachByte(t *testing.T) {
	for _, x := range written() {
		for i := range x.b {
			for c := range 256 {
				b := bytes.Clone(x.b)
				b[i] = byte(c)
				checkTake(t, b)
			}
		}
	}
}

// P8.1: right bodies with bytes missing at the end, or too many: ErrShape each.
func TestTakeCut(t *testing.T) {
	for _, x := range written() {
		for size := range len(x.b) {
			if m, e := msg.Take(x.b[:size]); m != (api.Msg{}) || e != api.ErrShape {
				t.Errorf("Take(%v) = %+v, %d, want nothing, ErrShape", x.b[:size], m, e)
			}
		}
		for _, more := range [][]byte{{0}, {1}, {0, 0}, make([]byte, 1000), x.b} {
			b := slices.Concat(x.b, more)
			if m, e := msg.Take(b); m != (api.Msg{}) || e != api.ErrShape {
				t.Errorf("Take(%v) = %+v, %d, want nothing, ErrShape", b, m, e)
			}
		}
	}
}

// P8.1: fields that are not as the chapter asks, in bodies of the right size: ErrShape each.
func TestTakeWrongFields(t *testing.T) {
	for _, b := range [][]byte{
		{1, 4}, {1, 255}, {2, 4}, {2, 128},
		{5, 0, 0, 0, 0, 2}, {5, 0, 0, 0, 0, 255},
		{6, 0, 0, 0, 0, 5}, {6, 0, 0, 0, 0, 255},
		{10, 0, 0, 0, 5, 1, 2, 5}, {10, 0, 0, 0, 5, 1, 2, 255},
		{11, 0, 0, 0, 0, 0, 0, 0, 0, 0, 0, 0, 0, 0, 0, 0},
		{11, 0, 0, 0, 0, 0, 0, 4, 0, 0, 0, 0, 0, 0, 0, 0},
	} {
		if m, e := msg.Take(b); m != (api.Msg{}) || e != api.ErrShape {
			t.Errorf("Take(%v) = %+v, %d, want nothing, ErrShape", b, m, e)
		}
	}
}

// manyMessages are messages of each Kind, with each field at some numbers that it may be.
func manyMessages() []api.Msg {
	var l []api.Msg
	for _, seq := range []int{0, 1, 255, 256, 65536, 1 << 24, 1<<32 - 1} {
		for _, kind := range []int{api.MgBeat, api.MgBye, api.MgDeny, api.MgRelease} {
			l = append(l, api.Msg{Kind: kind, Seq: seq})
		}
		l = append(l, api.Msg{Kind: api.MgAsk, Seq: seq}, api.Msg{Kind: api.MgAsk, Seq: seq, Now: true})
		for to := range 5 {
			l = append(l, api.Msg{Kind: api.MgOffer, Seq: seq, To: to})
		}
		for _, epoch := range []int{0, 1, 255, 256, 258, 65535} {
			l = append(l, api.Msg{Kind: api.MgAccept, Seq: seq, Epoch: epoch})
			for mode := range 5 {
				l = append(l, api.Msg{Kind: api.MgMode, Seq: seq, Epoch: epoch, Mode: mode})
			}
			for class := 1; class <= 3; class++ {
				for axis := range 4 {
					for _, n := range []int{-32768, -32767, -256, -1, 1, 255, 256, 32767} {
						m := api.Msg{Kind: api.MgPoint, Seq: seq, Epoch: epoch, Class: class}
						m.X[axis] = n
						l = append(l, m)
					}
				}
			}
		}
	}
	for role := range 4 {
		l = append(l, api.Msg{Kind: api.MgHello, Role: role}, api.Msg{Kind: api.MgProve, Role: role})
	}
	return l
}

// P8.3: what was put is taken; no two have the same bytes; none has more than 16.
func TestMessagesApart(t *testing.T) {
	of := map[string]api.Msg{}
	most := 0
	for _, m := range manyMessages() {
		checkPut(t, m)
		b, _ := msg.Put(m)
		if other, ok := of[string(b)]; ok {
			t.Fatalf("%+v and %+v have the same bytes %v", m, other, b)
		}
		of[string(b)] = m
		most = max(most, len(b))
	}
	if most != 16 {
		t.Errorf("the longest message has %d bytes, want 16", most)
	}
}

// P8.3: a message's bytes are no reply's.
func TestMessagesAreNoReplies(t *testing.T) {
	for _, m := range manyMessages() {
		b, _ := msg.Put(m)
		if r, e := msg.TakeReply(b); r != (api.Reply{}) || e != api.ErrShape {
			t.Fatalf("TakeReply(%v) = %+v, %d, want nothing, ErrShape", b, r, e)
		}
	}
}

// P8.3: each two-byte number of an axis, and each Epoch, put and taken.
func TestMessagesEachNumber(t *testing.T) {
	for n := range 65536 {
		checkPut(t, api.Msg{Kind: api.MgPoint, Class: 2, Epoch: n, X: [api.Axes]int{n - 32768, 32767 - n, 0, n - 32768}})
		checkPut(t, api.Msg{Kind: api.MgAccept, Seq: n * 65537, Epoch: n})
	}
}

// R7: Take neither changes nor keeps what it is given, nor looks behind its end; Put's bytes are the caller's own.
func TestMessagesOwnMemory(t *testing.T) {
	for _, x := range written() {
		room := append(bytes.Clone(x.b), mixed(20)...)
		before := bytes.Clone(room)
		m, e := msg.Take(room[:len(x.b)])
		if m != x.m || e != api.OK || !bytes.Equal(room, before) {
			t.Fatalf("Take(%v) = %+v, %d, and made %v of the bytes", x.b, m, e, room)
		}
		if m, e := msg.Take(room[:len(x.b)-1]); m != (api.Msg{}) || e != api.ErrShape || !bytes.Equal(room, before) {
			t.Fatalf("Take(%v) = %+v, %d, and made %v of the bytes", before[:len(x.b)-1], m, e, room)
		}
		spoil(room)
		if m != x.m {
			t.Fatalf("turning the bytes of %+v made it %+v", x.m, m)
		}

		one, _ := msg.Put(x.m)
		two, _ := msg.Put(x.m)
		spoil(one)
		three, _ := msg.Put(x.m)
		if !bytes.Equal(two, x.b) || !bytes.Equal(three, x.b) {
			t.Fatalf("Put(%+v) = %v, %v, once its bytes were turned, want %v", x.m, two, three, x.b)
		}
	}
}

// R6: answers hang on the arguments alone, whatever was called ahead, or is called at the same time.
func TestMessagesSameAgain(t *testing.T) {
	var all sync.WaitGroup
	for range 8 {
		all.Go(func() {
			for range 20 {
				for _, x := range written() {
					msg.Put(api.Msg{Kind: api.MgPoint, Class: 4, Seq: x.m.Seq})
					msg.Take(x.b[:len(x.b)-1])
					b, code := msg.Put(x.m)
					m, e := msg.Take(x.b)
					if !bytes.Equal(b, x.b) || code != api.OK || m != x.m || e != api.OK {
						t.Errorf("Put(%+v) = %v, %d, Take(%v) = %+v, %d", x.m, b, code, x.b, m, e)
					}
				}
			}
		})
	}
	all.Wait()
}

// R1, R2: no bytes, and very many of them, end without a panic, and tell nothing.
func TestTakeAnything(t *testing.T) {
	for first := range 256 {
		b := mixed(1 << 16)
		b[0] = byte(first)
		if m, e := msg.Take(b); m != (api.Msg{}) || e != api.ErrShape {
			t.Fatalf("Take(%d and many more) = %+v, %d, want nothing, ErrShape", first, m, e)
		}
		if r, e := msg.TakeReply(b); r != (api.Reply{}) || e != api.ErrShape {
			t.Fatalf("TakeReply(%d and many more) = %+v, %d, want nothing, ErrShape", first, r, e)
		}
	}
}
