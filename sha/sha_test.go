package sha_test

import (
	"bytes"
	"crypto/sha256"
	"encoding"
	"encoding/binary"
	"encoding/hex"
	"math/big"
	"strings"
	"testing"

	"sidestick/sha"
)

// mixed is so many bytes of all kinds, the same ones each time.
func mixed(size int) []byte {
	b := make([]byte, size)
	n := uint32(size)*2654435761 + 1
	for i := range b {
		n = n*1664525 + 1013904223
		b[i] = byte(n >> 24)
	}
	return b
}

// heads are numbers to sum on from: the ends, where it begins, and mixed ones.
func heads() [][8]uint32 {
	l := [][8]uint32{{}, sha.Start(), {1, 2, 3, 4, 5, 6, 7, 8}}
	var full [8]uint32
	for i := range full {
		full[i] = 1<<32 - 1
	}
	l = append(l, full)
	for i := range full {
		var one [8]uint32
		one[i] = 1 << 31
		l = append(l, one)
	}
	for size := 32; size < 72; size++ {
		b := mixed(size)
		var h [8]uint32
		for i := range h {
			h[i] = binary.BigEndian.Uint32(b[4*i:])
		}
		l = append(l, h)
	}
	return l
}

// blocks are those of one kind of byte, of one bit, and mixed ones.
func blocks() [][64]byte {
	l := [][64]byte{{}, [64]byte(bytes.Repeat([]byte{255}, 64)), [64]byte(bytes.Repeat([]byte{165}, 64))}
	for i := range 512 {
		var b [64]byte
		b[i/8] = 128 >> (i % 8)
		l = append(l, b)
	}
	for size := 64; size < 104; size++ {
		l = append(l, [64]byte(mixed(size)))
	}
	return l
}

// libraryBlock has the library sum a block on from h: its state is a mark, h, bytes that are no block yet, and how many there were.
func libraryBlock(t *testing.T, h [8]uint32, b [64]byte) [8]uint32 {
	t.Helper()
	state := []byte("sha\x03")
	for _, n := range h {
		state = binary.BigEndian.AppendUint32(state, n)
	}
	state = append(state, make([]byte, 64+8)...)
	sum := sha256.New()
	if err := sum.(encoding.BinaryUnmarshaler).UnmarshalBinary(state); err != nil {
		t.Fatal(err)
	}
	sum.Write(b[:])
	state, err := sum.(encoding.BinaryMarshaler).MarshalBinary()
	if err != nil {
		t.Fatal(err)
	}
	for i := range h {
		h[i] = binary.BigEndian.Uint32(state[4+4*i:])
	}
	return h
}

// primes are the first so many ones.
func primes(many int) []int64 {
	var l []int64
	for n := int64(2); len(l) < many; n++ {
		if big.NewInt(n).ProbablyPrime(0) {
			l = append(l, n)
		}
	}
	return l
}

// behindPoint is the first 32 bits behind the point of the root of n, in whole numbers: the greatest one whose power is at most n, moved up by 32 bits power times.
func behindPoint(n int64, power int64) uint32 {
	moved := new(big.Int).Lsh(big.NewInt(n), uint(32*power))
	root := new(big.Int)
	for bit := 40; bit >= 0; bit-- {
		next := new(big.Int).SetBit(root, bit, 1)
		if new(big.Int).Exp(next, big.NewInt(power), nil).Cmp(moved) <= 0 {
			root = next
		}
	}
	return uint32(root.Uint64())
}

// turned is n with its lowest bit put ahead of the highest one, places times.
func turned(n uint32, places int) uint32 {
	for range places {
		n = n/2 + n%2<<31
	}
	return n
}

// spread is the chapter's numbers w0 to w63 of a block.
func spread(b [64]byte) [64]uint32 {
	var w [64]uint32
	for i := range 16 {
		w[i] = binary.BigEndian.Uint32(b[4*i:])
	}
	for i := 16; i < 64; i++ {
		x, y := w[i-15], w[i-2]
		fromX := turned(x, 7) ^ turned(x, 18) ^ x/8
		fromY := turned(y, 17) ^ turned(y, 19) ^ y/1024
		w[i] = w[i-16] + w[i-7] + fromX + fromY
	}
	return w
}

// chosen is the bits of f where e has 1, and those of g where e has 0.
func chosen(e, f, g uint32) uint32 {
	var n uint32
	for bit := range 32 {
		from := g
		if e>>bit%2 == 1 {
			from = f
		}
		n += from >> bit % 2 << bit
	}
	return n
}

// mostOf is the bits that at least two of them have.
func mostOf(a, b, c uint32) uint32 {
	var n uint32
	for bit := range 32 {
		if a>>bit%2+b>>bit%2+c>>bit%2 >= 2 {
			n += 1 << bit
		}
	}
	return n
}

// plainBlock is Block by the chapter's words, bit by bit, with each root worked out.
func plainBlock(h [8]uint32, block [64]byte) [8]uint32 {
	a, b, c, d, e, f, g, z := h[0], h[1], h[2], h[3], h[4], h[5], h[6], h[7]
	w := spread(block)
	for i, prime := range primes(64) {
		s := z + (turned(e, 6) ^ turned(e, 11) ^ turned(e, 25)) + chosen(e, f, g) + behindPoint(prime, 3) + w[i]
		t := (turned(a, 2) ^ turned(a, 13) ^ turned(a, 22)) + mostOf(a, b, c)
		z, g, f, e, d, c, b, a = g, f, e, d+s, c, b, a, s+t
	}
	return [8]uint32{h[0] + a, h[1] + b, h[2] + c, h[3] + d, h[4] + e, h[5] + f, h[6] + g, h[7] + z}
}

// P4.1: the numbers that the chapter writes out, which are those of the roots.
func TestStart(t *testing.T) {
	want := [8]uint32{0x6A09E667, 0xBB67AE85, 0x3C6EF372, 0xA54FF53A, 0x510E527F, 0x9B05688C, 0x1F83D9AB, 0x5BE0CD19}
	if got := sha.Start(); got != want {
		t.Errorf("Start() = %08X, want %08X", got, want)
	}
	for i, prime := range primes(8) {
		if got, want := sha.Start()[i], behindPoint(prime, 2); got != want {
			t.Errorf("Start() has %08X of the root of %d, want %08X", got, prime, want)
		}
	}
}

// P4.1: Pad with the bytes written out: none, some, one less than a block has room for, as many, and a whole block.
func TestPad(t *testing.T) {
	noughts := func(many int) string { return strings.Repeat("\x00", many) }
	ones := func(many int) string { return strings.Repeat("\x01", many) }
	for _, x := range []struct{ b, want string }{
		{"", "\x80" + noughts(63)},
		{"abc", "abc\x80" + noughts(59) + "\x18"},
		{"\x00", "\x00\x80" + noughts(61) + "\x08"},
		{"\x80\x00", "\x80\x00\x80" + noughts(60) + "\x10"},
		{ones(31), ones(31) + "\x80" + noughts(31) + "\xf8"},
		{ones(32), ones(32) + "\x80" + noughts(29) + "\x01\x00"},
		{ones(54), ones(54) + "\x80" + noughts(7) + "\x01\xb0"},
		{ones(55), ones(55) + "\x80" + noughts(6) + "\x01\xb8"},
		{ones(56), ones(56) + "\x80" + noughts(69) + "\x01\xc0"},
		{ones(63), ones(63) + "\x80" + noughts(62) + "\x01\xf8"},
		{ones(64), ones(64) + "\x80" + noughts(61) + "\x02\x00"},
		{ones(119), ones(119) + "\x80" + noughts(6) + "\x03\xb8"},
		{ones(120), ones(120) + "\x80" + noughts(69) + "\x03\xc0"},
	} {
		if got := sha.Pad([]byte(x.b)); string(got) != x.want {
			t.Errorf("Pad(%q) = %q, want %q", x.b, got, x.want)
		}
	}
	if got := sha.Pad(nil); string(got) != "\x80"+noughts(63) {
		t.Errorf("Pad(nil) = %q", got)
	}
}

// P4.1: of each length the parts that the chapter names, and no 64 bytes that there need not be.
func TestPadParts(t *testing.T) {
	for size := range 400 {
		padParts(t, mixed(size))
	}
	for _, size := range []int{8191, 8192, 8193, 1 << 21, 1<<21 + 5} {
		padParts(t, mixed(size))
	}
}

func padParts(t *testing.T, b []byte) {
	t.Helper()
	got := sha.Pad(b)
	many := len(got) - len(b) - 9
	if len(got)%64 != 0 || many < 0 || many > 63 {
		t.Fatalf("Pad of %d bytes has %d", len(b), len(got))
	}
	if !bytes.Equal(got[:len(b)], b) || got[len(b)] != 128 {
		t.Fatalf("Pad of %d bytes does not begin with them and 128", len(b))
	}
	if !bytes.Equal(got[len(b)+1:len(got)-8], make([]byte, many)) {
		t.Fatalf("Pad of %d bytes has others than noughts in between", len(b))
	}
	if bits := binary.BigEndian.Uint64(got[len(got)-8:]); bits != 8*uint64(len(b)) {
		t.Fatalf("Pad of %d bytes tells %d bits", len(b), bits)
	}
}

// P4.2: Block of the padded "abc", as the standard writes it out.
func TestBlock(t *testing.T) {
	want := [8]uint32{0xBA7816BF, 0x8F01CFEA, 0x414140DE, 0x5DAE2223, 0xB00361A3, 0x96177A9C, 0xB410FF61, 0xF20015AD}
	var b [64]byte
	copy(b[:], "abc\x80")
	b[63] = 24
	if got := sha.Block(sha.Start(), b); got != want {
		t.Errorf("Block of \"abc\" = %08X, want %08X", got, want)
	}
}

// P4.2: against the chapter's words, from the beginning and from elsewhere.
func TestBlockByWords(t *testing.T) {
	some := blocks()
	for i, h := range heads() {
		b := some[i*7%len(some)]
		if got, want := sha.Block(h, b), plainBlock(h, b); got != want {
			t.Errorf("Block(%08X, %v) = %08X, want %08X", h, b, got, want)
		}
	}
}

// P4.2: against the library's SHA-256, each block from each h.
func TestBlockByLibrary(t *testing.T) {
	for _, h := range heads() {
		for _, b := range blocks() {
			if got, want := sha.Block(h, b), libraryBlock(t, h, b); got != want {
				t.Fatalf("Block(%08X, %v) = %08X, want %08X", h, b, got, want)
			}
		}
	}
}

// P4.3: sums that the chapter, and the standard, write out: of no block's end, of one, two and many blocks.
func TestSum(t *testing.T) {
	for _, x := range []struct{ b, want string }{
		{"", "e3b0c44298fc1c149afbf4c8996fb92427ae41e4649b934ca495991b7852b855"},
		{"abc", "ba7816bf8f01cfea414140de5dae2223b00361a396177a9cb410ff61f20015ad"},
		{"abcdbcdecdefdefgefghfghighijhijkijkljklmklmnlmnomnopnopq", "248d6a61d20638b8e5c026930c3e6039a33ce45964ff2167f6ecedd419db06c1"},
		{"abcdefghbcdefghicdefghijdefghijkefghijklfghijklmghijklmnhijklmnoijklmnopjklmnopqklmnopqrlmnopqrsmnopqrstnopqrstu", "cf5b16a778af8380036ce59e7b0492370b249b11e8f07a51afac45037afee9d1"},
		{strings.Repeat("a", 1000000), "cdc76e5c9914fb9281a1c7e284d73e67f1809a48a497200e046d39ccc7112cd0"},
	} {
		if got := sha.Sum([]byte(x.b)); hex.EncodeToString(got[:]) != x.want {
			t.Errorf("Sum of %d bytes = %x, want %s", len(x.b), got, x.want)
		}
	}
}

// P4.3: against the library's SHA-256, of each length up to some blocks, of all bytes of one kind and of mixed ones.
func TestSumByLibrary(t *testing.T) {
	for size := range 400 {
		for _, b := range [][]byte{make([]byte, size), bytes.Repeat([]byte{255}, size), mixed(size)} {
			if got, want := sha.Sum(b), sha256.Sum256(b); got != want {
				t.Fatalf("Sum(%v) = %x, want %x", b, got, want)
			}
		}
	}
	for _, size := range []int{4095, 4096, 65537, 1<<21 + 5} {
		b := mixed(size)
		if got, want := sha.Sum(b), sha256.Sum256(b); got != want {
			t.Errorf("Sum of %d bytes = %x, want %x", size, got, want)
		}
	}
}

// P4.3: Sum is Block of each 64 bytes of Pad, in order, from Start on.
func TestSumOfBlocks(t *testing.T) {
	for size := range 300 {
		b := mixed(size)
		h := sha.Start()
		for p := sha.Pad(b); len(p) > 0; p = p[64:] {
			h = sha.Block(h, [64]byte(p))
		}
		var want [32]byte
		for i, n := range h {
			binary.BigEndian.PutUint32(want[4*i:], n)
		}
		if got := sha.Sum(b); got != want {
			t.Errorf("Sum of %d bytes = %x, want %x", size, got, want)
		}
	}
}

// P4.4: another bit, in whichever block, is another sum.
func TestSumOfAllBits(t *testing.T) {
	b := mixed(200)
	seen := map[[32]byte]int{sha.Sum(b): -1}
	for i := range 8 * len(b) {
		b[i/8] ^= 128 >> (i % 8)
		sum := sha.Sum(b)
		b[i/8] ^= 128 >> (i % 8)
		if other, ok := seen[sum]; ok {
			t.Fatalf("bits %d and %d turned are of one sum", other, i)
		}
		seen[sum] = i
	}
}

// P4.4: the same blocks in another order, one that is missing, one that is there twice, and noughts behind are other sums.
func TestSumOfOrder(t *testing.T) {
	one, two, three := mixed(64), mixed(65)[:64], mixed(66)[:64]
	seen := map[[32]byte]int{}
	for i, l := range [][][]byte{
		nil, {one}, {two}, {three}, {one, one}, {one, two}, {two, one}, {one, three}, {two, three},
		{one, two, three}, {one, three, two}, {two, one, three}, {two, three, one}, {three, one, two}, {three, two, one},
		{one, {0}}, {one, {0, 0}}, {one, {128}}, {one, make([]byte, 64)}, {make([]byte, 64), one},
	} {
		sum := sha.Sum(bytes.Join(l, nil))
		if other, ok := seen[sum]; ok {
			t.Errorf("lists of blocks %d and %d are of one sum", other, i)
		}
		seen[sum] = i
	}
}

// R1, R6 and R7: what is handed in is not changed, nor what lies behind it, which counts for nothing, and each call answers the same again.
func TestOwn(t *testing.T) {
	whole := mixed(200)
	kept := bytes.Clone(whole)
	for size := range len(whole) + 1 {
		sum, padded := sha.Sum(whole[:size]), sha.Pad(whole[:size])
		if own := sha.Sum(bytes.Clone(whole[:size])); own != sum {
			t.Errorf("Sum of %d bytes = %x with bytes behind them, %x without", size, sum, own)
		}
		if again := sha.Sum(whole[:size:size]); again != sum {
			t.Errorf("Sum of %d bytes = %x, and then %x", size, sum, again)
		}
		clear(padded)
		if again := sha.Pad(whole[:size]); again[size] != 128 {
			t.Errorf("Pad of %d bytes has %d behind them once an older answer is changed", size, again[size])
		}
	}
	if !bytes.Equal(whole, kept) {
		t.Errorf("Sum or Pad changed its bytes to %v", whole)
	}
}

// R7: arrays are handed in and told as values: nobody's change of one is seen elsewhere.
func TestOwnArrays(t *testing.T) {
	start := sha.Start()
	start[0] = 0
	if again := sha.Start(); again[0] != 0x6A09E667 {
		t.Errorf("Start() begins with %08X once an older answer is changed", again[0])
	}
	h, b := sha.Start(), [64]byte(mixed(64))
	first := sha.Block(h, b)
	if h != sha.Start() || b != [64]byte(mixed(64)) {
		t.Errorf("Block changed what it was handed to %08X, %v", h, b)
	}
	if again := sha.Block(h, b); again != first {
		t.Errorf("Block = %08X, and then %08X", first, again)
	}
}
