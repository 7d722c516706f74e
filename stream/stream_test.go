package stream_test

import (
	"bytes"
	"runtime"
	"testing"

	"sidestick/api"
	"sidestick/stream"
)

// mixed is so many bytes of all kinds, the same ones each time.
func mixed(size int) []byte {
	b := make([]byte, size)
	n := uint32(size)*2654435761 + 1
	for i := range b {
		n = n*1664525 + 1013904223
		b[i] = byte(n >> 24)
	}
	return b
}

// unmarked is so many bytes that are no mark.
func unmarked(size int) []byte {
	return bytes.ReplaceAll(mixed(size), []byte{165}, []byte{1})
}

// divided is the sum of bytes by a long division, bit by bit: apart from the program's own.
func divided(b []byte) int {
	sum := 65535
	for i := range 8 * len(b) {
		out := sum>>15&1 ^ int(b[i/8])>>(7-i%8)&1
		sum = sum << 1 & 65535
		if out == 1 {
			sum ^= 0x1021
		}
	}
	return sum
}

// framed is the frame that has the body, laid apart from the program's own.
func framed(body ...byte) []byte {
	b := append([]byte{1, byte(len(body))}, body...)
	s := divided(b)
	return append(append([]byte{165}, b...), byte(s>>8), byte(s))
}

// broken is a frame of a wrong sum.
func broken(body ...byte) []byte {
	b := framed(body...)
	b[len(b)-1] ^= 1
	return b
}

func joined(parts ...[]byte) []byte { return bytes.Join(parts, nil) }

func bad(code api.Errno) api.Item { return api.Item{Code: code} }

func good(body ...byte) api.Item { return api.Item{Body: body} }

// plain is All by the words of chapters 6 and 7, from byte to byte.
func plain(b []byte) ([]api.Item, int) {
	var items []api.Item
	at := 0
	for {
		left := len(b) - at
		switch {
		case left == 0:
			return items, left
		case b[at] != 165:
			at++ // as many as there are ahead of a mark, one by one
		case left == 1:
			return items, left
		case b[at+1] != 1:
			items = append(items, bad(api.ErrVersion))
			at++
		case left == 2:
			return items, left
		case b[at+2] > 32:
			items = append(items, bad(api.ErrLength))
			at++
		case left < int(b[at+2])+5:
			return items, left
		default:
			end := at + 3 + int(b[at+2])
			if divided(b[at+1:end]) == int(b[end])*256+int(b[end+1]) {
				items = append(items, good(b[at+3:end]...))
				at = end + 2
			} else {
				items = append(items, bad(api.ErrSum))
				at++
			}
		}
	}
}

func same(a, b []api.Item) bool {
	if len(a) != len(b) {
		return false
	}
	for i := range a {
		if a[i].Code != b[i].Code || !bytes.Equal(a[i].Body, b[i].Body) {
			return false
		}
	}
	return true
}

// check holds All against what is wanted.
func check(t *testing.T, b []byte, want []api.Item, left int) {
	t.Helper()
	if got, n := stream.All(b); !same(got, want) || n != left {
		t.Fatalf("All(%v) = %v, %d, want %v, %d", b, got, n, want, left)
	}
}

// checkPlain holds All against the chapter's words.
func checkPlain(t *testing.T, b []byte) {
	t.Helper()
	want, left := plain(b)
	check(t, b, want, left)
}

// checkTake lets a piece come, and holds what comes of it against what is wanted.
func checkTake(t *testing.T, s *stream.Stream, b []byte, want []api.Item, left int) {
	t.Helper()
	if got := s.Take(b); !same(got, want) || s.Rest() != left {
		t.Fatalf("Take(%v) = %v, and Rest %d, want %v, %d", b, got, s.Rest(), want, left)
	}
}

// checkPieces lets pieces come, and holds each Take and Rest against the words for all bytes so far.
func checkPieces(t *testing.T, s *stream.Stream, pieces ...[]byte) {
	t.Helper()
	var all []byte
	told := 0
	for _, b := range pieces {
		all = append(all, b...)
		items, left := plain(all)
		checkTake(t, s, b, items[told:], left)
		told = len(items)
	}
}

// pieced is the bytes in pieces of so many, the last one maybe shorter.
func pieced(b []byte, size int) [][]byte {
	var l [][]byte
	for len(b) > size {
		l = append(l, b[:size])
		b = b[size:]
	}
	return append(l, b)
}

// parts are what streams are laid of: frames, broken ones, beginnings of all kinds, and what is none.
func parts() [][]byte {
	long := framed(mixed(32)...)
	return [][]byte{
		framed(), framed(7), framed(165, 1), framed(165, 165, 165), framed(framed(9)...), long,
		broken(), broken(1, 2), broken(framed(3)...), broken(mixed(32)...), broken(165, 1, 4),
		{165}, {165, 1}, {165, 1, 32}, {165, 1, 9}, long[:36], framed(5, 6)[:6],
		{165, 2}, {165, 1, 33}, {165, 1, 255}, {165, 165}, {165, 165, 1}, {1}, {0, 0, 0}, unmarked(36), unmarked(90),
	}
}

// streams are all pairs of parts, and long ones of all parts in some orders.
func streams() [][]byte {
	var l [][]byte
	all := parts()
	for _, a := range all {
		l = append(l, a)
		for _, b := range all {
			l = append(l, joined(a, b))
		}
	}
	for _, step := range []int{1, 3, 5, 7, 9, 11, 15, 17} { // each goes through all 26
		var long []byte
		for i := range all {
			long = append(long, all[i*step%len(all)]...)
		}
		l = append(l, long)
	}
	return l
}

// P7.1: what the chapter's words and its example tell of some bytes, written out.
func TestAll(t *testing.T) {
	for _, x := range []struct {
		b    []byte
		want []api.Item
		left int
	}{
		{nil, nil, 0},
		{[]byte{}, nil, 0},
		{[]byte{7}, nil, 0},
		{[]byte{1, 2, 3}, nil, 0},
		{[]byte{165}, nil, 1},
		{[]byte{7, 165}, nil, 1},
		{[]byte{165, 1}, nil, 2},
		{[]byte{165, 1, 0}, nil, 3},
		{[]byte{7, 165, 2, 165}, []api.Item{bad(api.ErrVersion)}, 1},
		{[]byte{165, 165, 165}, []api.Item{bad(api.ErrVersion), bad(api.ErrVersion)}, 1},
		{[]byte{165, 1, 33}, []api.Item{bad(api.ErrLength)}, 0},
		{[]byte{165, 1, 165, 1, 165}, []api.Item{bad(api.ErrLength), bad(api.ErrLength)}, 1},
		{[]byte{165, 1, 0, 0, 0}, []api.Item{bad(api.ErrSum)}, 0},
		{[]byte{165, 1, 0, 0x2E, 0x3E}, []api.Item{good()}, 0},
		{[]byte{165, 1, 2, 7, 8, 0x84, 0x8B}, []api.Item{good(7, 8)}, 0},
		{[]byte{165, 1, 2, 7, 8, 0x84, 0x8B, 9}, []api.Item{good(7, 8)}, 0},
		{[]byte{165, 1, 2, 7, 8, 0x84, 0x8B, 165, 1}, []api.Item{good(7, 8)}, 2},
		{joined(framed(1), framed(), framed(2, 3)), []api.Item{good(1), good(), good(2, 3)}, 0},
		{joined([]byte{4}, framed(1), []byte{5, 6}, framed(1), []byte{0}), []api.Item{good(1), good(1)}, 0},
		{joined([]byte{165}, framed(1)), []api.Item{bad(api.ErrVersion), good(1)}, 0},
		{joined([]byte{165, 1}, framed(1)), []api.Item{bad(api.ErrLength), good(1)}, 0},
		{joined([]byte{165, 1, 0}, framed(1)), []api.Item{bad(api.ErrSum), good(1)}, 0},
		{joined(broken(8), framed(1)), []api.Item{bad(api.ErrSum), good(1)}, 0},
		{joined([]byte{165, 1, 9}, framed(1)), nil, 9},
		{joined([]byte{165, 1, 3}, framed(1)[:5]), []api.Item{bad(api.ErrSum)}, 5},
	} {
		check(t, x.b, x.want, x.left)
	}
}

// P7.1: a frame within the body of another is none; one within a body of a wrong sum is found.
func TestAllWithin(t *testing.T) {
	within := framed(1, 2)
	check(t, framed(within...), []api.Item{good(within...)}, 0)
	check(t, broken(within...), []api.Item{bad(api.ErrSum), good(1, 2)}, 0)
	deep := broken(broken(broken(within...)...)...)
	check(t, deep, []api.Item{bad(api.ErrSum), bad(api.ErrSum), bad(api.ErrSum), good(1, 2)}, 0)
}

// P7.1: against the chapter's words, streams of all kinds, and each beginning of them.
func TestAllPlain(t *testing.T) {
	for _, b := range streams() {
		for end := range len(b) + 1 {
			checkPlain(t, b[:end])
		}
	}
}

// P7.1: against the chapter's words, all short bytes of those that count.
func TestAllShort(t *testing.T) {
	some := []byte{165, 1, 0, 2, 33, 0x2E, 0x3E}
	count := 1
	for size := range 7 {
		b := make([]byte, size)
		for n := range count {
			for i := range b {
				b[i] = some[n%len(some)]
				n /= len(some)
			}
			checkPlain(t, b)
		}
		count *= len(some)
	}
}

// P7.1: against the chapter's words, each three bytes ahead of a frame.
func TestAllHeads(t *testing.T) {
	f := framed(7, 8)
	for n := range 1 << 16 {
		checkPlain(t, joined([]byte{byte(n >> 8), byte(n)}, f))
		checkPlain(t, joined([]byte{165, byte(n >> 8), byte(n)}, f))
	}
}

// P7.1: many bytes: with nothing in them, with marks alone, with frames alone.
func TestAllMany(t *testing.T) {
	const many = 1 << 16
	check(t, make([]byte, 16*many), nil, 0)
	check(t, append(make([]byte, 16*many), 165), nil, 1)
	check(t, bytes.Repeat([]byte{165}, many), repeated(bad(api.ErrVersion), many-1), 1)
	check(t, bytes.Repeat([]byte{165, 1, 99}, many), repeated(bad(api.ErrLength), many), 0)
	check(t, bytes.Repeat([]byte{165, 1, 0, 0, 0}, many), repeated(bad(api.ErrSum), many), 0)
	check(t, bytes.Repeat(framed(7, 8), many), repeated(good(7, 8), many), 0)
	checkPlain(t, mixed(16*many))
}

func repeated(item api.Item, times int) []api.Item {
	l := make([]api.Item, times)
	for i := range l {
		l[i] = item
	}
	return l
}

// P7.2: a new stream, and a zero one, have nothing, and nothing comes of no bytes.
func TestNew(t *testing.T) {
	for _, s := range []*stream.Stream{stream.New(), new(stream.Stream), {}} {
		if s.Rest() != 0 {
			t.Errorf("Rest of a new stream = %d", s.Rest())
		}
		checkTake(t, s, nil, nil, 0)
		checkTake(t, s, []byte{}, nil, 0)
		checkTake(t, s, framed(7, 8), []api.Item{good(7, 8)}, 0)
	}
}

// P7.2: what the chapter's words and its example tell of some pieces, written out.
func TestTake(t *testing.T) {
	s := stream.New()
	checkTake(t, s, []byte{7, 165}, nil, 1)
	checkTake(t, s, []byte{2, 165}, []api.Item{bad(api.ErrVersion)}, 1)
	checkTake(t, s, nil, nil, 1)
	checkTake(t, s, []byte{1}, nil, 2)
	checkTake(t, s, []byte{1}, nil, 3)
	checkTake(t, s, framed(1)[3:], []api.Item{good(1)}, 0)
	checkTake(t, s, []byte{4, 5}, nil, 0)
	checkTake(t, s, joined(framed(1), framed(), framed(3)[:4]), []api.Item{good(1), good()}, 4)
	checkTake(t, s, joined(framed(3)[4:], framed(4)), []api.Item{good(3), good(4)}, 0)
	checkTake(t, s, joined([]byte{165, 1, 9}, framed(165, 1)), nil, 10)
	checkTake(t, s, make([]byte, 4), []api.Item{bad(api.ErrSum), good(165, 1)}, 0)
}

// P7.2 and P7.3: streams of all kinds, by all bytes so far, cut in pieces of each size, with empty ones between, and in two at each place.
func TestTakePieces(t *testing.T) {
	for _, b := range streams() {
		for _, size := range []int{1, 2, 3, 4, 5, 7, 36, 37, 38} {
			checkPieces(t, stream.New(), pieced(b, size)...)
		}
		for at := range len(b) + 1 {
			checkPieces(t, new(stream.Stream), b[:at], nil, b[at:], []byte{})
		}
	}
}

// P7.3: a stream cut at each two places tells the same as in one.
func TestCuts(t *testing.T) {
	for _, a := range parts() {
		b := joined(a, []byte{1, 165}, broken(framed(1)...), framed(2, 165), a)
		want, left := stream.All(b)
		for to := range len(b) + 1 {
			for from := range to + 1 {
				s := stream.New()
				got := append(s.Take(b[:from]), s.Take(b[from:to])...)
				got = append(got, s.Take(b[to:])...)
				if !same(got, want) || s.Rest() != left {
					t.Fatalf("%v cut at %d and %d: %v, %d, want %v, %d", b, from, to, got, s.Rest(), want, left)
				}
			}
		}
	}
}

// P7.3: no more than 36 bytes are left, however many came; as many are, of the longest frame's beginning.
func TestLeft(t *testing.T) {
	most := 0
	for _, b := range streams() {
		s := stream.New()
		for _, c := range b {
			s.Take([]byte{c})
			most = max(most, s.Rest())
		}
		_, left := stream.All(b)
		most = max(most, left)
	}
	if most != 36 {
		t.Errorf("%d bytes were left at most, want 36", most)
	}
}

// P7.3: behind 36 bytes that are no mark none are left, whatever came ahead of them, and the next frame is found; 35 are not enough.
func TestFoundAgain(t *testing.T) {
	for _, ahead := range append(streams(), nil) {
		for _, quiet := range [][]byte{unmarked(36), make([]byte, 36), bytes.Repeat([]byte{1}, 36), bytes.Repeat([]byte{32}, 36), unmarked(50)} {
			s := stream.New()
			s.Take(ahead)
			s.Take(quiet)
			if _, left := stream.All(joined(ahead, quiet)); left != 0 || s.Rest() != 0 {
				t.Fatalf("behind %v, and %v, %d and %d bytes are left", ahead, quiet, left, s.Rest())
			}
			checkTake(t, s, framed(7, 8), []api.Item{good(7, 8)}, 0)
		}
	}
	s := stream.New()
	checkTake(t, s, []byte{165}, nil, 1)
	checkTake(t, s, append([]byte{1, 32}, make([]byte, 33)...), nil, 36)
	checkTake(t, s, []byte{0}, []api.Item{bad(api.ErrSum)}, 0)
}

// P7.2 and P7.3: a long stream, byte by byte, tells the same as in one, and is not gone through again for each of them.
func TestLong(t *testing.T) {
	b := bytes.Repeat(joined(streams()...), 8)
	want, left := plain(b)
	s := stream.New()
	var got []api.Item
	for i := range b {
		got = append(got, s.Take(b[i:i+1])...)
	}
	if !same(got, want) || s.Rest() != left {
		t.Errorf("%d items of %d bytes, and %d left, want %d, %d", len(got), len(b), s.Rest(), len(want), left)
	}
}

// R6: a stream tells by what came of it alone: two of them, by turns, don't see each other, and each call answers the same again.
func TestAlone(t *testing.T) {
	a, b := stream.New(), stream.New()
	first, second := framed(1, 2, 3), broken(framed(4)...)
	for range 2 {
		checkTake(t, a, first[:5], nil, 5)
		checkTake(t, b, second[:6], nil, 6)
		checkTake(t, a, first[5:], []api.Item{good(1, 2, 3)}, 0)
		checkTake(t, b, second[6:], []api.Item{bad(api.ErrSum), good(4)}, 0)
	}
	for _, x := range streams() {
		want, left := stream.All(x)
		check(t, x, want, left)
		checkPieces(t, stream.New(), x)
		checkPieces(t, stream.New(), x)
	}
}

// R6 and R7: what lies behind a piece counts for nothing, and neither it nor the piece is changed.
func TestBehind(t *testing.T) {
	for _, x := range streams() {
		b := joined(x, framed(9), framed(9))
		kept := bytes.Clone(b)
		s := stream.New()
		for from := 0; from < len(x); from += 3 {
			to := min(from+3, len(x))
			checkPlain(t, b[from:to])
			s.Take(b[from:to])
		}
		if _, left := plain(x); s.Rest() != left {
			t.Errorf("%v: Rest = %d, want %d", x, s.Rest(), left)
		}
		if !bytes.Equal(b, kept) {
			t.Fatalf("%v became %v", kept, b)
		}
	}
}

// R7: what becomes of a piece ahead of the next one is not seen by the stream, nor by what was told.
func TestApart(t *testing.T) {
	for _, x := range streams() {
		want, _ := plain(x)
		for _, size := range []int{1, 4, 37, len(x)} {
			s := stream.New()
			var got []api.Item
			piece := make([]byte, size)
			for _, p := range pieced(x, size) {
				n := copy(piece, p)
				got = append(got, s.Take(piece[:n])...)
				spoil(piece)
			}
			if !same(got, want) {
				t.Fatalf("%v in pieces of %d: %v, want %v", x, size, got, want)
			}
		}
		b := bytes.Clone(x)
		got, _ := stream.All(b)
		spoil(b)
		if !same(got, want) {
			t.Fatalf("%v: %v, want %v", x, got, want)
		}
	}
}

// R7: what becomes of the items that were told is not seen by the piece, by the stream, by another item, or by what is told of the same bytes again.
func TestItemsApart(t *testing.T) {
	for _, x := range streams() {
		b := bytes.Clone(x)
		want, left := plain(x)
		s := stream.New()
		first, _ := stream.All(b)
		for i, item := range append(first, s.Take(b)...) {
			if !same([]api.Item{item}, want[i%len(want):][:1]) {
				t.Fatalf("%v: item %d is %v, want %v", x, i, item, want[i%len(want)])
			}
			spoil(item.Body)
		}
		if !bytes.Equal(b, x) {
			t.Fatalf("%v became %v", x, b)
		}
		check(t, b, want, left)
		all, end := plain(joined(x, x))
		checkTake(t, s, b, all[len(want):], end)
	}
}

// spoil turns all bytes, those behind the end as well.
func spoil(b []byte) {
	b = b[:cap(b)]
	for i := range b {
		b[i] ^= 255
	}
}

// P7.3: a stream keeps what is left, and not the piece in which it came.
func TestKept(t *testing.T) {
	const count, size = 64, 1 << 20
	piece := make([]byte, size)
	piece[size-1] = 165
	l := make([]*stream.Stream, count)
	ahead := held()
	for i := range l {
		l[i] = stream.New()
		l[i].Take(piece)
	}
	if more := held() - ahead; more > count*size/4 {
		t.Errorf("%d streams with a byte left each keep %d bytes", count, more)
	}
	for _, s := range l {
		checkTake(t, s, framed(7)[1:], []api.Item{good(7)}, 0)
	}
	runtime.KeepAlive(piece)
}

// held is how many bytes are in use.
func held() int {
	var m runtime.MemStats
	runtime.GC()
	runtime.ReadMemStats(&m)
	return int(m.HeapAlloc)
}
