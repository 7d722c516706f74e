package crc_test

import (
	"bytes"
	"testing"

	"sidestick/crc"
)

// divided is Step by long division of polynomials, which it must be: sum and byte, moved up by eight places, less as many 11021 (hexadecimal) as go.
func divided(sum uint16, c byte) uint16 {
	n := (uint32(sum) ^ uint32(c)<<8) << 8
	for place := 23; place >= 16; place-- {
		if n>>place == 1 {
			n ^= 0x11021 << (place - 16)
		}
	}
	return uint16(n)
}

// mixed is so many bytes of all kinds, the same ones each time.
func mixed(size int) []byte {
	b := make([]byte, size)
	n := uint32(size)*2654435761 + 1
	for i := range b {
		n = n*1664525 + 1013904223
		b[i] = byte(n >> 24)
	}
	return b
}

// bodies are bytes of several lengths: all of one kind, those of frames, and mixed ones.
func bodies() [][]byte {
	l := [][]byte{nil, {}, {0}, {1}, {128}, {165}, {255}, {0, 0}, {255, 255}, {1, 0}, {1, 2, 3}, []byte("123456789")}
	for _, size := range []int{3, 8, 34, 256} {
		l = append(l, make([]byte, size), bytes.Repeat([]byte{255}, size), mixed(size))
	}
	return l
}

// withSum is b, and its Sum behind it.
func withSum(b []byte) []byte {
	sum := crc.Sum(b)
	return append(bytes.Clone(b), byte(sum>>8), byte(sum))
}

// P3.1: steps that are written out: nothing, each of the ends of sum and byte, and what the byte takes away.
func TestStep(t *testing.T) {
	for _, x := range []struct {
		sum  uint16
		c    byte
		want uint16
	}{
		{0, 0, 0},
		{0, 1, 0x1021},
		{0, 2, 0x2042},
		{0, 8, 0x8108},
		{0, 16, 0x1231},
		{0, 128, 0x9188},
		{0, 255, 0x1ef0},
		{1, 0, 0x0100},
		{0x00ff, 0, 0xff00},
		{0x0100, 0, 0x1021},
		{0x0100, 1, 0},
		{0x0101, 1, 0x0100},
		{0x8000, 0, 0x9188},
		{0x8000, 128, 0},
		{0xff00, 255, 0},
		{0xffff, 255, 0xff00},
		{0xffff, 0, 0xe1f0},
		{0xffff, 'A', 0xb915},
	} {
		if got := crc.Step(x.sum, x.c); got != x.want {
			t.Errorf("Step(%04X, %d) = %04X, want %04X", x.sum, x.c, got, x.want)
		}
	}
}

// P3.1: every sum with every byte.
func TestStepAll(t *testing.T) {
	for sum := range 1 << 16 {
		for c := range 1 << 8 {
			if got, want := crc.Step(uint16(sum), byte(c)), divided(uint16(sum), byte(c)); got != want {
				t.Fatalf("Step(%04X, %d) = %04X, want %04X", sum, c, got, want)
			}
		}
	}
}

// P3.1: the chapter's examples, and sums of few bytes.
func TestSum(t *testing.T) {
	for _, x := range []struct {
		b    string
		want uint16
	}{
		{"", 0xffff},
		{"123456789", 0x29b1},
		{"A", 0xb915},
		{"\x00", 0xe1f0},
		{"\xff", 0xff00},
		{"\xff\xff", 0},
		{"\xff\xff\x00", 0},
		{"\xff\xff\x01", 0x1021},
		{"\x00\x00", 0x1d0f},
	} {
		if got := crc.Sum([]byte(x.b)); got != x.want {
			t.Errorf("Sum(%q) = %04X, want %04X", x.b, got, x.want)
		}
	}
	if got := crc.Sum(nil); got != 0xffff {
		t.Errorf("Sum(nil) = %04X, want FFFF", got)
	}
}

// P3.1: a Sum is that of each byte in its turn, from FFFF on, of all lengths, long ones among them.
func TestSumSteps(t *testing.T) {
	l := bodies()
	for size := range 70 {
		l = append(l, mixed(size))
	}
	l = append(l, mixed(1<<16), make([]byte, 1<<16+1))
	for _, b := range l {
		steps, want := uint16(0xffff), uint16(0xffff)
		for _, c := range b {
			steps, want = crc.Step(steps, c), divided(want, c)
		}
		if got := crc.Sum(b); got != want || got != steps {
			t.Errorf("Sum of %d bytes %.9v = %04X, by steps %04X, want %04X", len(b), b, got, steps, want)
		}
	}
}

// P3.1: bytes in another order, and with noughts in front, or behind, have another sum.
func TestSumOrder(t *testing.T) {
	seen := map[uint16]string{}
	for _, b := range []string{"", "\x00", "\x00\x00", "\x01", "\x01\x00", "\x00\x01", "\x01\x02", "\x02\x01", "\x01\x02\x03", "\x03\x02\x01"} {
		sum := crc.Sum([]byte(b))
		if other, ok := seen[sum]; ok {
			t.Errorf("Sum(%q) and Sum(%q) are both %04X", other, b, sum)
		}
		seen[sum] = b
	}
}

// P3.2: bytes and their Sum behind them have the Sum 0, and only that sum behind them does it.
func TestSumBehind(t *testing.T) {
	for _, b := range bodies() {
		whole := withSum(b)
		if got := crc.Sum(whole); got != 0 {
			t.Errorf("Sum of %v and of its Sum = %04X, want 0", b, got)
		}
		if len(b) > 16 {
			continue
		}
		right := crc.Sum(b)
		for sum := range 1 << 16 {
			whole[len(b)], whole[len(b)+1] = byte(sum>>8), byte(sum)
			if got := crc.Sum(whole); (got == 0) != (uint16(sum) == right) {
				t.Fatalf("Sum of %v and of %04X behind it = %04X, where the right sum is %04X", b, sum, got, right)
			}
		}
	}
}

// turned turns of whole those bits that pattern has among the 16 from the bit first on: the highest bit of pattern is the first one.
func turned(whole []byte, first int, pattern uint16) {
	bits := uint32(pattern) << (8 - first%8)
	for i := range 3 {
		if c := byte(bits >> (16 - 8*i)); c != 0 {
			whole[first/8+i] ^= c
		}
	}
}

// findsTurned turns each pattern (by steps of step) at each place where whole has all of its bits, and turns it back.
func findsTurned(t *testing.T, whole []byte, step int) {
	t.Helper()
	for first := range 8 * len(whole) {
		room := 8*len(whole) - first
		for n := 1 << 15; n < 1<<16; n += step {
			pattern := uint16(n)
			if room < 16 && pattern<<room != 0 {
				continue
			}
			turned(whole, first, pattern)
			if crc.Sum(whole) == 0 {
				t.Fatalf("with %016b turned from bit %d on, the Sum of %v is 0", pattern, first, whole)
			}
			turned(whole, first, pattern)
		}
	}
}

// P3.2: of few bytes all that can be turned within 16 bits in a row, at each place, in the bytes, in the sum, and across.
func TestTurnedAll(t *testing.T) {
	for _, b := range [][]byte{nil, {0}, {165}, {1, 2, 3}, {0, 0, 0, 0}, {255, 255, 255, 255, 255}} {
		findsTurned(t, withSum(b), 1)
	}
}

// P3.2: the same of as many bytes as a frame has, with a part of the patterns: its steps are no power of 2, so that the low bits are turned too.
func TestTurnedLong(t *testing.T) {
	for _, size := range []int{9, 34, 80} {
		findsTurned(t, withSum(mixed(size)), 149)
	}
}

// P3.2: each bit alone, of long bytes.
func TestTurnedOne(t *testing.T) {
	whole := withSum(mixed(2000))
	for i := range whole {
		for bit := range 8 {
			whole[i] ^= 1 << bit
			if crc.Sum(whole) == 0 {
				t.Fatalf("with bit %d of byte %d turned the Sum is 0", bit, i)
			}
			whole[i] ^= 1 << bit
		}
	}
}

// R6 and R7: what is handed in is not changed, nor what lies behind it, which counts for nothing, and each call answers the same again.
func TestOwn(t *testing.T) {
	whole := mixed(40)
	kept := bytes.Clone(whole)
	for size := range len(whole) + 1 {
		first := crc.Sum(whole[:size])
		if own := crc.Sum(bytes.Clone(whole[:size])); own != first {
			t.Errorf("Sum of %d bytes = %04X with bytes behind them, %04X without", size, first, own)
		}
		if again := crc.Sum(whole[:size:size]); again != first {
			t.Errorf("Sum of %d bytes = %04X, and then %04X", size, first, again)
		}
	}
	if !bytes.Equal(whole, kept) {
		t.Errorf("Sum changed its bytes to %v", whole)
	}
}
