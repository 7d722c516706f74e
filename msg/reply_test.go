package msg_test

import (
	"bytes"
	"math"
	"slices"
	"sync"
	"testing"

	"sidestick/api"
	"sidestick/msg"
)

// writtenReplies are replies of each Kind, with the bytes written out.
func writtenReplies() []struct {
	r api.Reply
	b []byte
} {
	return []struct {
		r api.Reply
		b []byte
	}{
		{api.Reply{Kind: api.RpNonce}, []byte{129, 0, 0, 0, 0, 0, 0, 0, 0}},
		{api.Reply{Kind: api.RpNonce, Nonce: [8]byte{1, 2, 3, 4, 5, 6, 7, 8}}, []byte{129, 1, 2, 3, 4, 5, 6, 7, 8}},
		{api.Reply{Kind: api.RpNonce, Nonce: [8]byte{255, 0, 128, 127, 0, 0, 1, 254}}, []byte{129, 255, 0, 128, 127, 0, 0, 1, 254}},
		{api.Reply{Kind: api.RpWelcome}, []byte{130, 0, 0, 0, 0}},
		{api.Reply{Kind: api.RpWelcome, Role: 3, Who: 4, Epoch: 258}, []byte{130, 3, 4, 1, 2}},
		{api.Reply{Kind: api.RpWelcome, Role: 1, Who: 2, Epoch: 65535}, []byte{130, 1, 2, 255, 255}},
		{api.Reply{Kind: api.RpOk, Seq: 0x01020304}, []byte{131, 1, 2, 3, 4}},
		{api.Reply{Kind: api.RpOk}, []byte{131, 0, 0, 0, 0}},
		{api.Reply{Kind: api.RpOk, Seq: 4294967295}, []byte{131, 255, 255, 255, 255}},
		{api.Reply{Kind: api.RpNack, Seq: 1, Code: api.ErrEpoch}, []byte{132, 0, 0, 0, 1, 21}},
		{api.Reply{Kind: api.RpNack, Seq: 256, Code: 255}, []byte{132, 0, 0, 1, 0, 255}},
		{api.Reply{Kind: api.RpNack}, []byte{132, 0, 0, 0, 0, 0}},
		{api.Reply{Kind: api.RpGrant, Epoch: 1}, []byte{133, 0, 1}},
		{api.Reply{Kind: api.RpGrant, Epoch: 65535}, []byte{133, 255, 255}},
		{api.Reply{Kind: api.RpLost, Who: 2, Epoch: 1}, []byte{134, 2, 0, 1}},
		{api.Reply{Kind: api.RpLost, Epoch: 256}, []byte{134, 0, 1, 0}},
		{api.Reply{Kind: api.RpOffer, Who: 4, Epoch: 258}, []byte{135, 4, 1, 2}},
		{api.Reply{Kind: api.RpOffer}, []byte{135, 0, 0, 0}},
		{api.Reply{Kind: api.RpGone, Who: 3, Code: api.ErrTime}, []byte{136, 3, 30}},
		{api.Reply{Kind: api.RpGone, Who: 4, Code: 255}, []byte{136, 4, 255}},
		{api.Reply{Kind: api.RpGone}, []byte{136, 0, 0}},
	}
}

// checkPutReply holds PutReply against the chapter's words, and what it tells against TakeReply.
func checkPutReply(t *testing.T, r api.Reply) {
	t.Helper()
	want := plainPut(replyKinds, r.Kind, replyParts(r))
	code := api.ErrArg
	if want != nil {
		code = api.OK
	}
	got, e := msg.PutReply(r)
	if !bytes.Equal(got, want) || e != code {
		t.Fatalf("PutReply(%+v) = %v, %d, want %v, %d", r, got, e, want, code)
	}
	if want == nil {
		return
	}
	if back, e := msg.TakeReply(got); back != r || e != api.OK {
		t.Fatalf("TakeReply(%v) = %+v, %d, want %+v, OK", got, back, e, r)
	}
}

// checkTakeReply holds TakeReply against the chapter's words, and what it tells against PutReply.
func checkTakeReply(t *testing.T, b []byte) {
	t.Helper()
	got, e := msg.TakeReply(b)
	kind, want, ok := plainTake(replyKinds, b, replyParts(api.Reply{}))
	if !ok {
		if got != (api.Reply{}) || e != api.ErrShape {
			t.Fatalf("TakeReply(%v) = %+v, %d, want nothing, ErrShape", b, got, e)
		}
		return
	}
	if e != api.OK || got.Kind != kind || !sameParts(replyParts(got), want) {
		t.Fatalf("TakeReply(%v) = %+v, %d, want %d %v, OK", b, got, e, kind, want)
	}
	if back, e := msg.PutReply(got); !bytes.Equal(back, b) || e != api.OK {
		t.Fatalf("PutReply(%+v) = %v, %d, want %v, OK", got, back, e, b)
	}
}

// replySetters set one whole number of a reply each.
func replySetters() []func(r *api.Reply, n int) {
	return []func(r *api.Reply, n int){
		func(r *api.Reply, n int) { r.Seq = n },
		func(r *api.Reply, n int) { r.Role = n },
		func(r *api.Reply, n int) { r.Who = n },
		func(r *api.Reply, n int) { r.Epoch = n },
		func(r *api.Reply, n int) { r.Code = api.Errno(n) },
	}
}

// rightReplies are some replies of each Kind that may be put.
func rightReplies() []api.Reply {
	var l []api.Reply
	for _, x := range writtenReplies() {
		l = append(l, x.r)
	}
	return l
}

// P8.2: replies of each Kind, with the bytes written out: put, and taken.
func TestReplies(t *testing.T) {
	for _, x := range writtenReplies() {
		if got, e := msg.PutReply(x.r); !bytes.Equal(got, x.b) || e != api.OK {
			t.Errorf("PutReply(%+v) = %v, %d, want %v, OK", x.r, got, e, x.b)
		}
		if got, e := msg.TakeReply(x.b); got != x.r || e != api.OK {
			t.Errorf("TakeReply(%v) = %+v, %d, want %+v, OK", x.b, got, e, x.r)
		}
	}
}

// P8.2: a Kind that is none of a reply's, a message's among them, whatever else there is.
func TestPutReplyNoKind(t *testing.T) {
	kinds := noKinds()
	for kind := range messageKinds {
		kinds = append(kinds, kind)
	}
	for _, kind := range kinds {
		for _, r := range append(rightReplies(), api.Reply{}) {
			r.Kind = kind
			if got, e := msg.PutReply(r); got != nil || e != api.ErrArg {
				t.Fatalf("PutReply(%+v) = %v, %d, want nil, ErrArg", r, got, e)
			}
		}
	}
}

// P8.2: each field of each Kind, named by it or not, at each number where a field, or a size, ends.
func TestPutReplyEdges(t *testing.T) {
	for _, r := range rightReplies() {
		for _, set := range replySetters() {
			for _, n := range edges() {
				x := r
				set(&x, n)
				checkPutReply(t, x)
			}
		}
		for i := range r.Nonce {
			for _, c := range []byte{0, 1, 127, 128, 255} {
				x := r
				x.Nonce[i] = c
				checkPutReply(t, x)
			}
		}
	}
}

// P8.2: a field that the Kind does not name is not zero, of otherwise right replies: ErrArg each.
func TestPutReplyUnnamed(t *testing.T) {
	for _, r := range []api.Reply{
		{Kind: api.RpNonce, Seq: 1},
		{Kind: api.RpNonce, Nonce: [8]byte{1}, Code: 1},
		{Kind: api.RpWelcome, Role: 1, Seq: 1},
		{Kind: api.RpWelcome, Nonce: [8]byte{7: 1}},
		{Kind: api.RpOk, Code: 1},
		{Kind: api.RpOk, Code: math.MinInt},
		{Kind: api.RpNack, Code: 1, Epoch: 1},
		{Kind: api.RpGrant, Epoch: 1, Nonce: [8]byte{1}},
		{Kind: api.RpGrant, Epoch: 1, Role: 1},
		{Kind: api.RpLost, Who: 1, Epoch: 1, Role: -1},
		{Kind: api.RpOffer, Who: 1, Epoch: 1, Code: 256},
		{Kind: api.RpGone, Who: 1, Epoch: 1 << 16},
		{Kind: api.RpGone, Who: 1, Seq: 1 << 32},
	} {
		if got, e := msg.PutReply(r); got != nil || e != api.ErrArg {
			t.Errorf("PutReply(%+v) = %v, %d, want nil, ErrArg", r, got, e)
		}
	}
}

// P8.2: fields that are not as the chapter asks, one beyond each end: ErrArg each; at each end: put.
func TestPutReplyEnds(t *testing.T) {
	for _, x := range []struct {
		r           api.Reply
		set         func(r *api.Reply, n int)
		least, most int
	}{
		{api.Reply{Kind: api.RpWelcome}, func(r *api.Reply, n int) { r.Role = n }, 0, 3},
		{api.Reply{Kind: api.RpWelcome}, func(r *api.Reply, n int) { r.Who = n }, 0, 4},
		{api.Reply{Kind: api.RpWelcome}, func(r *api.Reply, n int) { r.Epoch = n }, 0, 65535},
		{api.Reply{Kind: api.RpOk}, func(r *api.Reply, n int) { r.Seq = n }, 0, 4294967295},
		{api.Reply{Kind: api.RpNack}, func(r *api.Reply, n int) { r.Seq = n }, 0, 4294967295},
		{api.Reply{Kind: api.RpNack}, func(r *api.Reply, n int) { r.Code = api.Errno(n) }, 0, 255},
		{api.Reply{Kind: api.RpGrant}, func(r *api.Reply, n int) { r.Epoch = n }, 0, 65535},
		{api.Reply{Kind: api.RpLost}, func(r *api.Reply, n int) { r.Who = n }, 0, 4},
		{api.Reply{Kind: api.RpLost}, func(r *api.Reply, n int) { r.Epoch = n }, 0, 65535},
		{api.Reply{Kind: api.RpOffer}, func(r *api.Reply, n int) { r.Who = n }, 0, 4},
		{api.Reply{Kind: api.RpOffer}, func(r *api.Reply, n int) { r.Epoch = n }, 0, 65535},
		{api.Reply{Kind: api.RpGone}, func(r *api.Reply, n int) { r.Who = n }, 0, 4},
		{api.Reply{Kind: api.RpGone}, func(r *api.Reply, n int) { r.Code = api.Errno(n) }, 0, 255},
	} {
		for _, n := range []int{x.least, x.most} {
			r := x.r
			x.set(&r, n)
			if got, e := msg.PutReply(r); got == nil || e != api.OK {
				t.Errorf("PutReply(%+v) = %v, %d, want bytes, OK", r, got, e)
			}
		}
		for _, n := range []int{x.least - 1, x.most + 1, math.MinInt, math.MaxInt} {
			r := x.r
			x.set(&r, n)
			if got, e := msg.PutReply(r); got != nil || e != api.ErrArg {
				t.Errorf("PutReply(%+v) = %v, %d, want nil, ErrArg", r, got, e)
			}
		}
	}
}

// P8.2: all bodies of up to two bytes, all those of three that a reply of three bytes may be, and of two and two bytes more.
func TestTakeReplyShort(t *testing.T) {
	checkTakeReply(t, nil)
	checkTakeReply(t, []byte{})
	for first := range 256 {
		checkTakeReply(t, []byte{byte(first)})
		for second := range 256 {
			checkTakeReply(t, []byte{byte(first), byte(second)})
			checkTakeReply(t, []byte{byte(first), byte(second), 1, 2})
			for _, kind := range []byte{api.RpGrant, api.RpGone} {
				checkTakeReply(t, []byte{kind, byte(first), byte(second)})
			}
		}
	}
}

// P8.2: each Kind, and each that is none, with as many bytes behind it as there may be, and more: noughts, ones, and mixed ones.
func TestTakeReplySizes(t *testing.T) {
	for first := range 256 {
		for size := range 40 {
			for _, rest := range [][]byte{make([]byte, size), bytes.Repeat([]byte{1}, size), bytes.Repeat([]byte{255}, size), mixed(size)} {
				checkTakeReply(t, append([]byte{byte(first)}, rest...))
			}
		}
	}
}

// P8.2: each byte of right bodies, turned to each other one.
func TestTakeReplyEachByte(t *testing.T) {
	for _, x := range writtenReplies() {
		for i := range x.b {
			for c := range 256 {
				b := bytes.Clone(x.b)
				b[i] = byte(c)
				checkTakeReply(t, b)
			}
		}
	}
}

// P8.2: right bodies with bytes missing at the end, or too many: ErrShape each.
func TestTakeReplyCut(t *testing.T) {
	for _, x := range writtenReplies() {
		for size := range len(x.b) {
			if r, e := msg.TakeReply(x.b[:size]); r != (api.Reply{}) || e != api.ErrShape {
				t.Errorf("TakeReply(%v) = %+v, %d, want nothing, ErrShape", x.b[:size], r, e)
			}
		}
		for _, more := range [][]byte{{0}, {1}, {0, 0}, make([]byte, 1000), x.b} {
			b := slices.Concat(x.b, more)
			if r, e := msg.TakeReply(b); r != (api.Reply{}) || e != api.ErrShape {
				t.Errorf("TakeReply(%v) = %+v, %d, want nothing, ErrShape", b, r, e)
			}
		}
	}
}

// P8.2: fields that are not as the chapter asks, in bodies of the right size: ErrShape each.
func TestTakeReplyWrongFields(t *testing.T) {
	for _, b := range [][]byte{
		{130, 4, 0, 0, 0}, {130, 255, 0, 0, 0}, {130, 0, 5, 0, 0}, {130, 0, 255, 0, 0},
		{134, 5, 0, 0}, {134, 128, 0, 0}, {135, 5, 0, 0}, {135, 255, 0, 0}, {136, 5, 0}, {136, 255, 0},
	} {
		if r, e := msg.TakeReply(b); r != (api.Reply{}) || e != api.ErrShape {
			t.Errorf("TakeReply(%v) = %+v, %d, want nothing, ErrShape", b, r, e)
		}
	}
}

// manyReplies are replies of each Kind, with each field at some numbers that it may be.
func manyReplies() []api.Reply {
	var l []api.Reply
	for _, seq := range []int{0, 1, 255, 256, 65536, 1 << 24, 1<<32 - 1} {
		l = append(l, api.Reply{Kind: api.RpOk, Seq: seq})
		for code := range 256 {
			l = append(l, api.Reply{Kind: api.RpNack, Seq: seq, Code: api.Errno(code)})
		}
	}
	for _, epoch := range []int{0, 1, 255, 256, 258, 65535} {
		l = append(l, api.Reply{Kind: api.RpGrant, Epoch: epoch})
		for who := range 5 {
			l = append(l, api.Reply{Kind: api.RpLost, Who: who, Epoch: epoch}, api.Reply{Kind: api.RpOffer, Who: who, Epoch: epoch})
			for role := range 4 {
				l = append(l, api.Reply{Kind: api.RpWelcome, Role: role, Who: who, Epoch: epoch})
			}
		}
	}
	for who := range 5 {
		for code := range 256 {
			l = append(l, api.Reply{Kind: api.RpGone, Who: who, Code: api.Errno(code)})
		}
	}
	for i := range api.TagSize {
		for c := range 255 {
			r := api.Reply{Kind: api.RpNonce}
			r.Nonce[i] = byte(c + 1)
			l = append(l, r)
		}
	}
	return l
}

// P8.3: what was put is taken; no two have the same bytes; none has more than 16.
func TestRepliesApart(t *testing.T) {
	of := map[string]api.Reply{}
	for _, r := range manyReplies() {
		checkPutReply(t, r)
		b, _ := msg.PutReply(r)
		if other, ok := of[string(b)]; ok {
			t.Fatalf("%+v and %+v have the same bytes %v", r, other, b)
		}
		of[string(b)] = r
		if len(b) > 16 {
			t.Errorf("PutReply(%+v) has %d bytes, want at most 16", r, len(b))
		}
	}
}

// P8.3: a reply's bytes are no message's.
func TestRepliesAreNoMessages(t *testing.T) {
	for _, r := range manyReplies() {
		b, _ := msg.PutReply(r)
		if m, e := msg.Take(b); m != (api.Msg{}) || e != api.ErrShape {
			t.Fatalf("Take(%v) = %+v, %d, want nothing, ErrShape", b, m, e)
		}
	}
}

// R7: TakeReply neither changes nor keeps what it is given, nor looks behind its end; PutReply's bytes are the caller's own.
func TestRepliesOwnMemory(t *testing.T) {
	for _, x := range writtenReplies() {
		room := append(bytes.Clone(x.b), mixed(20)...)
		before := bytes.Clone(room)
		r, e := msg.TakeReply(room[:len(x.b)])
		if r != x.r || e != api.OK || !bytes.Equal(room, before) {
			t.Fatalf("TakeReply(%v) = %+v, %d, and made %v of the bytes", x.b, r, e, room)
		}
		if r, e := msg.TakeReply(room[:len(x.b)-1]); r != (api.Reply{}) || e != api.ErrShape || !bytes.Equal(room, before) {
			t.Fatalf("TakeReply(%v) = %+v, %d, and made %v of the bytes", before[:len(x.b)-1], r, e, room)
		}
		spoil(room)
		if r != x.r {
			t.Fatalf("turning the bytes of %+v made it %+v", x.r, r)
		}

		given := x.r
		one, _ := msg.PutReply(given)
		two, _ := msg.PutReply(given)
		spoil(one)
		three, _ := msg.PutReply(given)
		if given != x.r || !bytes.Equal(two, x.b) || !bytes.Equal(three, x.b) {
			t.Fatalf("PutReply(%+v) = %v, %v, once its bytes were turned, want %v", x.r, two, three, x.b)
		}
	}
}

// R6: answers hang on the arguments alone, whatever was called ahead, or is called at the same time.
func TestRepliesSameAgain(t *testing.T) {
	var all sync.WaitGroup
	for range 8 {
		all.Go(func() {
			for range 20 {
				for _, x := range writtenReplies() {
					msg.PutReply(api.Reply{Kind: api.RpGone, Who: 5, Seq: x.r.Seq})
					msg.TakeReply(x.b[:len(x.b)-1])
					b, code := msg.PutReply(x.r)
					r, e := msg.TakeReply(x.b)
					if !bytes.Equal(b, x.b) || code != api.OK || r != x.r || e != api.OK {
						t.Errorf("PutReply(%+v) = %v, %d, TakeReply(%v) = %+v, %d", x.r, b, code, x.b, r, e)
					}
				}
			}
		})
	}
	all.Wait()
}
