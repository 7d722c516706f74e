package frame_test

import (
	"bytes"
	"testing"

	"sidestick/api"
	"sidestick/frame"
)

// mixed is so many bytes of all kinds, the same ones each time.
func mixed(size int) []byte {
	b := make([]byte, size)
	n := uint32(size)*2654435761 + 1
	for i := range b {
		n = n*1664525 + 1013904223
		b[i] = byte(n >> 24)
	}
	return b
}

// divided is the sum of bytes by a long division, bit by bit: apart from the program's own.
func divided(b []byte) int {
	sum := 65535
	for i := range 8 * len(b) {
		out := sum>>15&1 ^ int(b[i/8])>>(7-i%8)&1
		sum = sum << 1 & 65535
		if out == 1 {
			sum ^= 0x1021
		}
	}
	return sum
}

// sealed is a mark, the bytes, and the sum of these.
func sealed(b ...byte) []byte {
	s := divided(b)
	return append(append([]byte{165}, b...), byte(s>>8), byte(s))
}

// framed is the frame that has the body.
func framed(body []byte) []byte {
	return sealed(append([]byte{1, byte(len(body))}, body...)...)
}

var wait = api.Found{Kind: api.FdWait}

func skip(size int) api.Found { return api.Found{Kind: api.FdSkip, Size: size} }

func reject(code api.Errno) api.Found {
	return api.Found{Kind: api.FdReject, Size: 1, Code: code}
}

// plain is Next by the chapter's words, one after the other.
func plain(b []byte) api.Found {
	if len(b) == 0 {
		return wait
	}
	if b[0] != 165 {
		ahead := 0
		for ahead < len(b) && b[ahead] != 165 {
			ahead++
		}
		return skip(ahead)
	}
	if len(b) == 1 {
		return wait
	}
	if b[1] != 1 {
		return reject(api.ErrVersion)
	}
	if len(b) == 2 {
		return wait
	}
	n := int(b[2])
	if n > 32 {
		return reject(api.ErrLength)
	}
	if len(b) < n+5 {
		return wait
	}
	if divided(b[1:n+3]) != int(b[n+3])*256+int(b[n+4]) {
		return reject(api.ErrSum)
	}
	return api.Found{Kind: api.FdFrame, Size: n + 5, Body: b[3 : n+3]}
}

func same(a, b api.Found) bool {
	return a.Kind == b.Kind && a.Size == b.Size && a.Code == b.Code && bytes.Equal(a.Body, b.Body)
}

func check(t *testing.T, b []byte, want api.Found) {
	t.Helper()
	if got := frame.Next(b); !same(got, want) {
		t.Fatalf("Next(%v) = %v, want %v", b, got, want)
	}
}

// bodies are those of each length that there may be: of noughts, of ones, of marks, of versions, and mixed.
func bodies() [][]byte {
	var l [][]byte
	for size := range 33 {
		for _, c := range []byte{0, 1, 165, 255} {
			l = append(l, bytes.Repeat([]byte{c}, size))
		}
		l = append(l, mixed(size))
	}
	return l
}

// P6.1: frames written out byte by byte, the sum's highest byte first: of no body, of one byte, of marks, of all 32.
func TestPut(t *testing.T) {
	for _, x := range []struct{ body, want []byte }{
		{nil, []byte{165, 1, 0, 0x2E, 0x3E}},
		{[]byte{}, []byte{165, 1, 0, 0x2E, 0x3E}},
		{[]byte{0}, []byte{165, 1, 1, 0, 0xC8, 0x9D}},
		{[]byte{7, 8}, []byte{165, 1, 2, 7, 8, 0x84, 0x8B}},
		{[]byte{165, 165}, []byte{165, 1, 2, 165, 165, 0x9B, 0xD0}},
		{[]byte("123456789"), append(append([]byte{165, 1, 9}, "123456789"...), 0x18, 0x8B)},
		{make([]byte, 32), append(append([]byte{165, 1, 32}, make([]byte, 32)...), 0x8C, 0x0D)},
	} {
		got, code := frame.Put(x.body)
		if code != api.OK || !bytes.Equal(got, x.want) {
			t.Errorf("Put(%v) = % X, %d, want % X", x.body, got, code, x.want)
		}
	}
	for _, body := range bodies() {
		got, code := frame.Put(body)
		if want := framed(body); code != api.OK || !bytes.Equal(got, want) {
			t.Errorf("Put(%v) = %v, %d, want %v", body, got, code, want)
		}
	}
}

// P6.1: each single byte, and each pair of bytes, is a body.
func TestPutAllBytes(t *testing.T) {
	for n := range 1 << 16 {
		for _, body := range [][]byte{{byte(n)}, {byte(n >> 8), byte(n)}} {
			got, code := frame.Put(body)
			if want := framed(body); code != api.OK || !bytes.Equal(got, want) {
				t.Fatalf("Put(%v) = %v, %d, want %v", body, got, code, want)
			}
		}
	}
}

// P6.1 and R2: a body of more than 32 bytes is refused, whatever its bytes are, also where its length is as good as a short one's in a byte.
func TestPutLong(t *testing.T) {
	for _, size := range []int{33, 34, 63, 64, 127, 128, 165, 255, 256, 257, 260, 288, 289, 512, 65535, 65536, 65537, 1 << 20} {
		for _, body := range [][]byte{make([]byte, size), mixed(size)} {
			if got, code := frame.Put(body); len(got) != 0 || code != api.ErrArg {
				t.Errorf("Put of %d bytes = %v, %d, want ErrArg", size, got, code)
			}
		}
	}
}

// P6.2: what the chapter and its examples write out.
func TestNext(t *testing.T) {
	two := framed([]byte{7, 8})
	for _, x := range []struct {
		b    []byte
		want api.Found
	}{
		{nil, wait},
		{[]byte{}, wait},
		{[]byte{1, 2, 165}, skip(2)},
		{[]byte{1, 2, 165, 165}, skip(2)},
		{[]byte{1, 2}, skip(2)},
		{[]byte{0}, skip(1)},
		{[]byte{1, 1, 33}, skip(3)},
		{[]byte{164, 166, 165, 1, 0}, skip(2)},
		{append([]byte{1}, two...), skip(1)},
		{[]byte{165}, wait},
		{[]byte{165, 2}, reject(api.ErrVersion)},
		{[]byte{165, 0, 99}, reject(api.ErrVersion)},
		{[]byte{165, 165, 1, 0}, reject(api.ErrVersion)},
		{[]byte{165, 1}, wait},
		{[]byte{165, 1, 33}, reject(api.ErrLength)},
		{[]byte{165, 1, 255}, reject(api.ErrLength)},
		{[]byte{165, 1, 165, 1, 0, 0x2E, 0x3E}, reject(api.ErrLength)},
		{[]byte{165, 1, 32}, wait},
		{[]byte{165, 1, 0}, wait},
		{[]byte{165, 1, 0, 0}, wait},
		{[]byte{165, 1, 0, 0, 0}, reject(api.ErrSum)},
		{[]byte{165, 1, 0, 0x3E, 0x2E}, reject(api.ErrSum)},
		{[]byte{165, 1, 0, 0x2E, 0x3E}, api.Found{Kind: api.FdFrame, Size: 5}},
		{two, api.Found{Kind: api.FdFrame, Size: 7, Body: []byte{7, 8}}},
		{append(bytes.Clone(two), 165, 9), api.Found{Kind: api.FdFrame, Size: 7, Body: []byte{7, 8}}},
	} {
		check(t, x.b, x.want)
	}
}

// P6.2: against the chapter's words, each three bytes with nothing behind them, and with more behind them than the third one can ask for.
func TestNextHeads(t *testing.T) {
	behind := mixed(40)
	for n := range 1 << 16 {
		b := append([]byte{byte(n >> 8), byte(n)}, behind...)
		check(t, b[:1], plain(b[:1]))
		check(t, b[:2], plain(b[:2]))
		check(t, b, plain(b))
		head := append([]byte{165, byte(n >> 8), byte(n)}, behind...)
		for size := 1; size < 6; size++ {
			check(t, head[:size], plain(head[:size]))
		}
		check(t, head, plain(head))
	}
}

// P6.2: against the chapter's words, all short bytes of those that count, and the first one that is so of several is told.
func TestNextShort(t *testing.T) {
	some := []byte{165, 1, 0, 2, 33, 0x2E, 0x3E}
	count := 1
	for size := range 7 {
		b := make([]byte, size)
		for n := range count {
			for i := range b {
				b[i] = some[n%len(some)]
				n /= len(some)
			}
			check(t, b, plain(b))
		}
		count *= len(some)
	}
}

// P6.2: bytes ahead of the first mark are skipped, however many they are, and no mark behind that counts.
func TestNextSkips(t *testing.T) {
	for size := 1; size < 300; size++ {
		b := bytes.ReplaceAll(mixed(size), []byte{165}, []byte{1})
		check(t, b, skip(size))
		check(t, append(b, 165), skip(size))
		check(t, append(b, 165, 3, 165, 165), skip(size))
		check(t, append(b, framed(mixed(9))...), skip(size))
	}
	much := make([]byte, 1<<20)
	check(t, much, skip(len(much)))
	much[len(much)-1] = 165
	check(t, much, skip(len(much)-1))
}

// P6.2: a sum that is not that of the bytes between: each other sum, for some bodies.
func TestNextSums(t *testing.T) {
	for _, body := range [][]byte{nil, {0}, {165}, mixed(32)} {
		b := framed(body)
		right := divided(b[1 : len(b)-2])
		for sum := range 1 << 16 {
			b[len(b)-2], b[len(b)-1] = byte(sum>>8), byte(sum)
			want := reject(api.ErrSum)
			if sum == right {
				want = api.Found{Kind: api.FdFrame, Size: len(b), Body: body}
			}
			check(t, b, want)
		}
	}
}

// P6.2: a sum that takes in Mark, or leaves out Version or the length, is no right one.
func TestNextOtherSums(t *testing.T) {
	for _, body := range bodies() {
		b := framed(body)
		end := len(b) - 2
		for _, from := range []int{0, 2, 3} {
			s := divided(b[from:end])
			if s == divided(b[1:end]) {
				continue
			}
			wrong := append(bytes.Clone(b[:end]), byte(s>>8), byte(s))
			check(t, wrong, reject(api.ErrSum))
		}
	}
}

// P6.2: a right sum does not make up for another version, or for too great a length, nor do bytes of 33 and more.
func TestNextRightSums(t *testing.T) {
	for c := range 256 {
		for _, body := range [][]byte{nil, {1}, mixed(32)} {
			want := reject(api.ErrVersion)
			if c == 1 {
				want = api.Found{Kind: api.FdFrame, Size: len(body) + 5, Body: body}
			}
			check(t, sealed(append([]byte{byte(c), byte(len(body))}, body...)...), want)
		}
		body := mixed(c)
		want := reject(api.ErrLength)
		if c <= 32 {
			want = api.Found{Kind: api.FdFrame, Size: c + 5, Body: body}
		}
		check(t, framed(body), want)
	}
	check(t, sealed(append([]byte{2, 200}, mixed(200)...)...), reject(api.ErrVersion))
}

// P6.3: a frame is found whole, with its body, whatever stands behind it: another frame, a mark, noughts, many bytes.
func TestWhole(t *testing.T) {
	for _, body := range bodies() {
		b, code := frame.Put(body)
		if code != api.OK {
			t.Fatalf("Put(%v): %d", body, code)
		}
		want := api.Found{Kind: api.FdFrame, Size: len(body) + 5, Body: body}
		check(t, b, want)
		for _, behind := range [][]byte{{0}, {165}, {255}, b, {165, 2}, b[:len(b)-1], framed(mixed(32)), make([]byte, 40), mixed(1000)} {
			check(t, append(bytes.Clone(b), behind...), want)
		}
	}
	b := framed([]byte{7, 8})
	for c := range 256 {
		check(t, append(bytes.Clone(b), byte(c)), api.Found{Kind: api.FdFrame, Size: 7, Body: []byte{7, 8}})
	}
}

// P6.3: each beginning of a frame waits, that of no bytes too.
func TestBeginnings(t *testing.T) {
	for _, body := range bodies() {
		b := framed(body)
		for size := range b {
			check(t, b[:size], wait)
			check(t, b[:size:size], wait)
		}
	}
}

// P6.3: with bits of body and sum turned, within 16 in a row: all patterns at all places of short bodies, a part of them of longer ones.
func TestTurned(t *testing.T) {
	for _, body := range bodies() {
		step := 2
		if len(body) > 2 {
			step = 2 * (len(body)*40 + 1) // even, as a pattern begins with a bit that is turned
		}
		b := framed(body)
		kept := bytes.Clone(b)
		for at := 24; at < 8*len(b); at++ {
			for pattern := 1; pattern < 1<<16; pattern += step {
				if !turn(b, at, pattern) {
					continue
				}
				if got := frame.Next(b); !same(got, reject(api.ErrSum)) {
					t.Fatalf("%v with bits turned to %v: Next = %v, want ErrSum", kept, b, got)
				}
				copy(b, kept)
			}
		}
	}
}

// turn turns the pattern's bits, the lowest one at that bit; false, and nothing turned, if one of them would be behind the bytes.
func turn(b []byte, at, pattern int) bool {
	if pattern>>(8*len(b)-at) != 0 {
		return false
	}
	for ; pattern != 0; pattern >>= 1 {
		if pattern&1 == 1 {
			b[at/8] ^= 128 >> (at % 8)
		}
		at++
	}
	return true
}

// P6.3: each bit of body and sum, and each two of them within 16 in a row, turned, for all bodies.
func TestTurnedPairs(t *testing.T) {
	for _, body := range bodies() {
		b := framed(body)
		kept := bytes.Clone(b)
		for at := 24; at < 8*len(b); at++ {
			for apart := range 16 {
				if !turn(b, at, 1|1<<apart) {
					continue
				}
				check(t, b, reject(api.ErrSum))
				copy(b, kept)
			}
		}
	}
}

// R1, R6 and R7: what lies behind the bytes counts for nothing, nothing that is handed in is changed, and each call answers the same again.
func TestOwn(t *testing.T) {
	whole := append(mixed(32), 9, 9)
	for size := range 33 {
		body := whole[:size]
		want := framed(bytes.Clone(body))
		for range 2 {
			if got, code := frame.Put(body); code != api.OK || !bytes.Equal(got, want) {
				t.Errorf("Put of %d bytes with others behind them = %v, %d, want %v", size, got, code, want)
			}
		}
		stream := append(bytes.Clone(want), want...)
		kept := bytes.Clone(stream)
		for end := range stream {
			check(t, stream[:end], plain(kept[:end]))
			check(t, stream[:end:end], plain(kept[:end]))
		}
		if !bytes.Equal(stream, kept) {
			t.Errorf("Next changed its bytes to %v", stream)
		}
	}
	if !bytes.Equal(whole, append(mixed(32), 9, 9)) {
		t.Errorf("Put changed its bytes to %v", whole)
	}
}

// R7: a frame, and a body that was found, are memory of their own: what becomes of it, or of what was handed in, is not seen by the other.
func TestApart(t *testing.T) {
	for _, kept := range bodies() {
		body := append(bytes.Clone(kept), 1, 2, 3, 4, 5, 6)[:len(kept)]
		b, _ := frame.Put(body)
		other, _ := frame.Put(body)
		spoil(body)
		spoil(other)
		if !bytes.Equal(b, framed(kept)) {
			t.Errorf("the frame of %v became %v", kept, b)
		}
		stream := append(bytes.Clone(b), b...)
		first, second := frame.Next(stream), frame.Next(stream)
		spoil(second.Body)
		if !bytes.Equal(first.Body, kept) || !bytes.Equal(stream, append(bytes.Clone(b), b...)) {
			t.Errorf("the body %v was found as %v, in %v", kept, first.Body, stream)
		}
		spoil(stream)
		if !bytes.Equal(first.Body, kept) {
			t.Errorf("the body %v became %v", kept, first.Body)
		}
	}
}

// spoil turns all bytes, those behind the end as well.
func spoil(b []byte) {
	b = b[:cap(b)]
	for i := range b {
		b[i] ^= 255
	}
}
