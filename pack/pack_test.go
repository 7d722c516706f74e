package pack_test

import (
	"bytes"
	"math"
	"math/big"
	"testing"

	"sidestick/api"
	"sidestick/pack"
)

// numbers are those at which a size ends, or a byte goes round.
func numbers() []uint64 {
	l := []uint64{0, 1, 2, 127, 128, 258, 0x0102030405060708, 0xfedcba9876543210, math.MaxUint64 - 1, math.MaxUint64}
	for size := 1; size < 8; size++ {
		edge := uint64(1) << (8 * size)
		l = append(l, edge-2, edge-1, edge, edge+1, edge<<7)
	}
	return l
}

// below tells whether n is below 2 to the power of 8 times size, in numbers without an end.
func below(n uint64, size int) bool {
	bound := new(big.Int).Exp(big.NewInt(2), big.NewInt(int64(8*size)), nil)
	return new(big.Int).SetUint64(n).Cmp(bound) < 0
}

// P2.1: the chapter's example, and numbers of each kind with the bytes written out.
func TestPut(t *testing.T) {
	for _, x := range []struct {
		n    uint64
		size int
		want []byte
	}{
		{258, 3, []byte{0, 1, 2}},
		{258, 2, []byte{1, 2}},
		{0, 0, nil},
		{0, 1, []byte{0}},
		{0, 8, make([]byte, 8)},
		{1, 8, []byte{0, 0, 0, 0, 0, 0, 0, 1}},
		{255, 1, []byte{255}},
		{256, 2, []byte{1, 0}},
		{0xa5, 2, []byte{0, 0xa5}},
		{0x01020304, 4, []byte{1, 2, 3, 4}},
		{0x80000000000000, 7, []byte{128, 0, 0, 0, 0, 0, 0}},
		{0x0102030405060708, 8, []byte{1, 2, 3, 4, 5, 6, 7, 8}},
		{math.MaxUint64, 8, []byte{255, 255, 255, 255, 255, 255, 255, 255}},
	} {
		if got, code := pack.Put(x.n, x.size); !bytes.Equal(got, x.want) || code != api.OK {
			t.Errorf("Put(%d, %d) = %v, %d, want %v, OK", x.n, x.size, got, code, x.want)
		}
	}
}

// P2.1: a size that is not from 0 to 8, even of numbers that every size has room for.
func TestPutWrongSize(t *testing.T) {
	for _, size := range []int{-1, -2, -8, 9, 10, 16, 64, math.MinInt, math.MinInt + 1, math.MaxInt} {
		for _, n := range []uint64{0, 1, 255, math.MaxUint64} {
			if got, code := pack.Put(n, size); got != nil || code != api.ErrArg {
				t.Errorf("Put(%d, %d) = %v, %d, want nil, ErrArg", n, size, got, code)
			}
		}
	}
}

// P2.1: each number at the end of a size, of every size: either it is refused, or it is as many bytes as asked.
func TestPutEachSize(t *testing.T) {
	for size := range 9 {
		for _, n := range numbers() {
			got, code := pack.Put(n, size)
			if !below(n, size) {
				if got != nil || code != api.ErrArg {
					t.Errorf("Put(%d, %d) = %v, %d, want nil, ErrArg", n, size, got, code)
				}
				continue
			}
			if want := new(big.Int).SetUint64(n).FillBytes(make([]byte, size)); !bytes.Equal(got, want) || code != api.OK {
				t.Errorf("Put(%d, %d) = %v, %d, want %v, OK", n, size, got, code, want)
			}
		}
	}
}

// P2.1: no byte, noughts in front, each length up to 8.
func TestTake(t *testing.T) {
	for _, x := range []struct {
		b    []byte
		want uint64
	}{
		{nil, 0},
		{[]byte{}, 0},
		{[]byte{0}, 0},
		{[]byte{255}, 255},
		{[]byte{0, 1, 2}, 258},
		{[]byte{1, 2}, 258},
		{[]byte{2, 1}, 513},
		{[]byte{128, 0}, 32768},
		{[]byte{0, 0, 0, 0, 0, 0, 0, 7}, 7},
		{[]byte{1, 0, 0, 0, 0, 0, 0}, 1 << 48},
		{[]byte{1, 2, 3, 4, 5, 6, 7, 8}, 0x0102030405060708},
		{[]byte{255, 255, 255, 255, 255, 255, 255, 255}, math.MaxUint64},
	} {
		if got, code := pack.Take(x.b); got != x.want || code != api.OK {
			t.Errorf("Take(%v) = %d, %d, want %d, OK", x.b, got, code, x.want)
		}
	}
}

// P2.1: more than 8 bytes are refused, whatever they are.
func TestTakeTooLong(t *testing.T) {
	for _, size := range []int{9, 10, 16, 32, 1000} {
		for _, c := range []byte{0, 1, 255} {
			if got, code := pack.Take(bytes.Repeat([]byte{c}, size)); got != 0 || code != api.ErrArg {
				t.Errorf("Take of %d bytes %d = %d, %d, want 0, ErrArg", size, c, got, code)
			}
		}
	}
}

// ints are numbers with a sign, and the bytes that they are.
var ints = []struct {
	n int
	b [2]byte
}{
	{0, [2]byte{0, 0}},
	{1, [2]byte{0, 1}},
	{-1, [2]byte{255, 255}},
	{-2, [2]byte{255, 254}},
	{255, [2]byte{0, 255}},
	{256, [2]byte{1, 0}},
	{258, [2]byte{1, 2}},
	{-256, [2]byte{255, 0}},
	{-257, [2]byte{254, 255}},
	{1000, [2]byte{3, 232}},
	{-1000, [2]byte{252, 24}},
	{32766, [2]byte{127, 254}},
	{32767, [2]byte{127, 255}},
	{-32767, [2]byte{128, 1}},
	{-32768, [2]byte{128, 0}},
}

// P2.2: the chapter's example, both sides of 0, and both ends.
func TestInts(t *testing.T) {
	for _, x := range ints {
		if got, code := pack.PutInt(x.n); !bytes.Equal(got, x.b[:]) || code != api.OK {
			t.Errorf("PutInt(%d) = %v, %d, want %v, OK", x.n, got, code, x.b)
		}
		if got, code := pack.TakeInt(x.b[:]); got != x.n || code != api.OK {
			t.Errorf("TakeInt(%v) = %d, %d, want %d, OK", x.b, got, code, x.n)
		}
	}
}

// P2.2: numbers beyond both ends, those among them that are small again modulo 2^16.
func TestPutIntWrong(t *testing.T) {
	for _, n := range []int{32768, 32769, 65535, 65536, 65537, 1 << 40, math.MaxInt, -32769, -32770, -65535, -65536, -65537, -1 << 40, math.MinInt, math.MinInt + 1} {
		if got, code := pack.PutInt(n); got != nil || code != api.ErrArg {
			t.Errorf("PutInt(%d) = %v, %d, want nil, ErrArg", n, got, code)
		}
	}
}

// P2.2: each length but 2 is refused.
func TestTakeIntWrong(t *testing.T) {
	for _, size := range []int{0, 1, 3, 4, 8, 9, 1000} {
		for _, c := range []byte{0, 1, 255} {
			if got, code := pack.TakeInt(bytes.Repeat([]byte{c}, size)); got != 0 || code != api.ErrArg {
				t.Errorf("TakeInt of %d bytes %d = %d, %d, want 0, ErrArg", size, c, got, code)
			}
		}
	}
	if got, code := pack.TakeInt(nil); got != 0 || code != api.ErrArg {
		t.Errorf("TakeInt(nil) = %d, %d, want 0, ErrArg", got, code)
	}
}

// P2.3: what Put gave, Take takes, and the bytes are the only ones of that length.
func TestPutIsTaken(t *testing.T) {
	for size := range 9 {
		for _, n := range numbers() {
			b, code := pack.Put(n, size)
			if code != api.OK {
				continue
			}
			if got, code := pack.Take(b); got != n || code != api.OK {
				t.Errorf("Take of Put(%d, %d) = %d, %d, want %d, OK", n, size, got, code, n)
			}
		}
	}
	for n := range uint64(1 << 16) {
		b, code := pack.Put(n, 2)
		if code != api.OK {
			t.Fatalf("Put(%d, 2): code %d, want OK", n, code)
		}
		if got, code := pack.Take(b); got != n || code != api.OK {
			t.Fatalf("Take of Put(%d, 2) = %d, %d, want %d, OK", n, got, code, n)
		}
	}
}

// P2.3: what PutInt gave, TakeInt takes, of all the numbers that there are, and no two bytes are of the same one.
func TestPutIntIsTaken(t *testing.T) {
	seen := map[[2]byte]int{}
	for n := -32768; n <= 32767; n++ {
		b, code := pack.PutInt(n)
		if code != api.OK || len(b) != 2 {
			t.Fatalf("PutInt(%d) = %v, %d, want 2 bytes, OK", n, b, code)
		}
		if m, ok := seen[[2]byte(b)]; ok {
			t.Fatalf("PutInt(%d) and PutInt(%d) are both %v", m, n, b)
		}
		seen[[2]byte(b)] = n
		if got, code := pack.TakeInt(b); got != n || code != api.OK {
			t.Fatalf("TakeInt of PutInt(%d) = %d, %d, want %d, OK", n, got, code, n)
		}
	}
}

// P2.3: bytes of one length rise as their numbers do, both ways.
func TestBytesRise(t *testing.T) {
	for size := range 9 {
		for _, m := range numbers() {
			for _, n := range numbers() {
				bytesRise(t, m, n, size)
			}
		}
	}
}

func bytesRise(t *testing.T, m, n uint64, size int) {
	t.Helper()
	a, wrong := pack.Put(m, size)
	b, wrongToo := pack.Put(n, size)
	if wrong != api.OK || wrongToo != api.OK {
		return
	}
	if got, want := bytes.Compare(a, b), new(big.Int).SetUint64(m).Cmp(new(big.Int).SetUint64(n)); got != want {
		t.Errorf("Put(%d, %d) against Put(%d, %d): %d, want %d", m, size, n, size, got, want)
	}
}

// R7: what is handed in is not changed, nor what lies behind it, and what is told is the caller's own.
func TestOwn(t *testing.T) {
	whole := []byte{1, 2, 3, 4, 5, 6, 7, 8, 9, 10}
	kept := bytes.Clone(whole)
	for size := range len(whole) + 1 {
		pack.Take(whole[:size])
		pack.TakeInt(whole[:size])
	}
	if !bytes.Equal(whole, kept) {
		t.Errorf("Take or TakeInt changed its bytes to %v", whole)
	}
	first, _ := pack.Put(258, 2)
	small, _ := pack.PutInt(258)
	for _, b := range [][]byte{first, small} {
		clear(b)
	}
	again, _ := pack.Put(258, 2)
	smallAgain, _ := pack.PutInt(258)
	if want := []byte{1, 2}; !bytes.Equal(again, want) || !bytes.Equal(smallAgain, want) {
		t.Errorf("Put, PutInt of 258 = %v, %v behind a change of an older answer, want %v", again, smallAgain, want)
	}
}

// R1 and R6: every call ends, whatever it is given, and answers the same again.
func TestAnyArguments(t *testing.T) {
	for _, n := range numbers() {
		for _, size := range []int{math.MinInt, -65, -64, -8, -1, 0, 1, 7, 8, 9, 63, 64, 65, 1 << 60, 1 << 61, math.MaxInt} {
			a, code := pack.Put(n, size)
			b, codeToo := pack.Put(n, size)
			if !bytes.Equal(a, b) || code != codeToo {
				t.Errorf("Put(%d, %d) answers otherwise the second time", n, size)
			}
		}
		a, code := pack.PutInt(int(n))
		b, codeToo := pack.PutInt(int(n))
		if !bytes.Equal(a, b) || code != codeToo {
			t.Errorf("PutInt(%d) answers otherwise the second time", int(n))
		}
	}
}
