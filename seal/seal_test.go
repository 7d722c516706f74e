package seal_test

import (
	"bytes"
	"crypto/hmac"
	"crypto/sha256"
	"encoding/hex"
	"math"
	"math/big"
	"sync"
	"testing"

	"sidestick/api"
	"sidestick/seal"
)

type nonce = [api.TagSize]byte

// mixed is so many bytes of all kinds, the same ones each time.
func mixed(size int) []byte {
	b := make([]byte, size)
	n := uint32(size)*2654435761 + 1
	for i := range b {
		n = n*1664525 + 1013904223
		b[i] = byte(n >> 24)
	}
	return b
}

// plainLow is a number modulo 2 to the power of 8 times size, from 0 on, by long arithmetic, the highest byte first.
func plainLow(n, size int) []byte {
	modulo := new(big.Int).Lsh(big.NewInt(1), uint(8*size))
	rest := new(big.Int).Mod(big.NewInt(int64(n)), modulo)
	return rest.FillBytes(make([]byte, size))
}

// plainOf is the library's HMAC with SHA-256, of the pieces one behind the other.
func plainOf(key []byte, pieces ...[]byte) [32]byte {
	h := hmac.New(sha256.New, key)
	for _, piece := range pieces {
		h.Write(piece)
	}
	return [32]byte(h.Sum(nil))
}

func plainTag(key []byte, pieces ...[]byte) nonce {
	s := plainOf(key, pieces...)
	return nonce(s[:8])
}

func plainNonce(master []byte, source, n int) nonce {
	return plainTag(master, []byte{78}, plainLow(source, 1), plainLow(n, 4))
}

func plainProof(secret []byte, source, role int, n nonce) nonce {
	return plainTag(secret, []byte{80}, plainLow(source, 1), plainLow(role, 1), n[:])
}

func plainKey(secret []byte, source, role int, n nonce) [32]byte {
	return plainOf(secret, []byte{75}, plainLow(source, 1), plainLow(role, 1), n[:])
}

func plainClose(key [32]byte, source int, body []byte) []byte {
	tag := plainTag(key[:], []byte{77}, plainLow(source, 1), body)
	return append(bytes.Clone(body), tag[:]...)
}

// keys are some of no bytes, short ones, and some on each side of the 64 bytes that mac takes whole.
func keys() [][]byte {
	return [][]byte{nil, {}, {0}, {255}, []byte("m"), mixed(31), mixed(32), mixed(63), mixed(64), mixed(65), mixed(200)}
}

// numbers are those where a byte, four of them, or an int ends, and where what stands for them goes round.
func numbers() []int {
	l := []int{math.MinInt, math.MinInt + 1, math.MaxInt - 1, math.MaxInt, 258, 0x01020304, 0x0a0b0c0d0e0f}
	for _, n := range []int{0, 1 << 7, 1 << 8, 1 << 15, 1 << 16, 1 << 24, 1 << 31, 1 << 32, 1 << 40, 1 << 62} {
		for i := -5; i <= 5; i++ {
			l = append(l, n+i, -n+i)
		}
	}
	return l
}

// nonces are noughts, ones, each a single bit, and a mixed one.
func nonces() []nonce {
	l := []nonce{{}, {255, 255, 255, 255, 255, 255, 255, 255}, {9, 8, 7}, nonce(mixed(8))}
	for i := range 64 {
		var n nonce
		n[i/8] = 128 >> (i % 8)
		l = append(l, n)
	}
	return l
}

// sealKeys are keys of bodies: noughts, ones, and mixed ones.
func sealKeys() [][32]byte {
	return [][32]byte{{}, [32]byte(bytes.Repeat([]byte{255}, 32)), [32]byte(mixed(32)), seal.Key([]byte("secret"), 2, 1, nonce{1})}
}

// bodies are some of each length that a message or a frame has, and some longer ones.
func bodies() [][]byte {
	l := [][]byte{nil, {}, []byte("body"), make([]byte, 24), bytes.Repeat([]byte{255}, 16), mixed(55), mixed(64), mixed(1000)}
	for size := range 34 {
		l = append(l, mixed(size))
	}
	return l
}

func unhex(s string) []byte {
	b, err := hex.DecodeString(s)
	if err != nil {
		panic(err)
	}
	return b
}

// P9.1 and P9.2: a challenge, what answers it, the key that comes of it, and what that closes, written out.
func TestWritten(t *testing.T) {
	n := seal.Nonce([]byte("master"), 2, 258)
	if want := unhex("05fa18d4aeb20cae"); !bytes.Equal(n[:], want) {
		t.Errorf("Nonce = %x, want %x", n, want)
	}
	if got, want := seal.Nonce(nil, -1, -1), unhex("d085786a1b7287d8"); !bytes.Equal(got[:], want) {
		t.Errorf("Nonce by no bytes = %x, want %x", got, want)
	}
	if got, want := seal.Proof([]byte("secret"), 2, 1, n), unhex("744be07ce3d02275"); !bytes.Equal(got[:], want) {
		t.Errorf("Proof = %x, want %x", got, want)
	}
	key := seal.Key([]byte("secret"), 2, 1, n)
	if want := unhex("5ccdf0a7c0c30ba38e7dd9f932b9c3812f78ae5c2c58b1fccdbbc1e75b6a8209"); !bytes.Equal(key[:], want) {
		t.Errorf("Key = %x, want %x", key, want)
	}
	if got, want := seal.Close(key, 2, []byte("body")), unhex("626f64794c31c483faea430a"); !bytes.Equal(got, want) {
		t.Errorf("Close = %x, want %x", got, want)
	}
	if got, want := seal.Close(key, 2, nil), unhex("6d62c835c17deda8"); !bytes.Equal(got, want) {
		t.Errorf("Close of nothing = %x, want %x", got, want)
	}
	if got, e := seal.Open(key, 2, unhex("626f64794c31c483faea430a")); string(got) != "body" || e != api.OK {
		t.Errorf("Open = %x, %d, want body, OK", got, e)
	}
	if got, e := seal.Open(key, 2, unhex("6d62c835c17deda8")); len(got) != 0 || e != api.OK {
		t.Errorf("Open of nothing closed = %x, %d, want nothing, OK", got, e)
	}
}

// P9.1: Nonce against the chapter's words, by keys of all sizes, of sources and numbers at each end, and beyond it.
func TestNonce(t *testing.T) {
	for _, master := range keys() {
		for _, x := range numbers() {
			for _, a := range [][2]int{{x, 1}, {1, x}, {x, x}, {x, -x}, {3, x}} {
				if got, want := seal.Nonce(master, a[0], a[1]), plainNonce(master, a[0], a[1]); got != want {
					t.Fatalf("Nonce(%v, %d, %d) = %x, want %x", master, a[0], a[1], got, want)
				}
			}
		}
	}
	for source := -300; source <= 300; source++ {
		if got, want := seal.Nonce([]byte("m"), source, 7), plainNonce([]byte("m"), source, 7); got != want {
			t.Fatalf("Nonce of the source %d = %x, want %x", source, got, want)
		}
	}
}

// P9.1: Proof and Key against the chapter's words, by keys of all sizes, of sources and roles at each end, and beyond it.
func TestProofAndKey(t *testing.T) {
	check := func(secret []byte, source, role int, n nonce) {
		t.Helper()
		if got, want := seal.Proof(secret, source, role, n), plainProof(secret, source, role, n); got != want {
			t.Fatalf("Proof(%v, %d, %d, %x) = %x, want %x", secret, source, role, n, got, want)
		}
		if got, want := seal.Key(secret, source, role, n), plainKey(secret, source, role, n); got != want {
			t.Fatalf("Key(%v, %d, %d, %x) = %x, want %x", secret, source, role, n, got, want)
		}
	}
	for i, secret := range keys() {
		n := nonces()[i]
		for _, x := range numbers() {
			check(secret, x, 1, n)
			check(secret, 1, x, n)
			check(secret, x, x, n)
			check(secret, x, -x, n)
		}
		for _, n := range nonces() {
			check(secret, 2, 3, n)
		}
	}
	for i := -300; i <= 300; i++ {
		check([]byte("s"), i, 2, nonce{1})
		check([]byte("s"), 2, i, nonce{1})
	}
}

// P9.1: numbers that are the same modulo 256 (a source, a role), or 2^32 (n), are told alike; those that are not, apart.
func TestModulo(t *testing.T) {
	key, n := []byte("s"), nonce{5}
	for i := -5; i <= 5; i++ {
		for _, round := range []int{256, -256, 1 << 32, -1 << 40, 1 << 62, math.MinInt} {
			if seal.Nonce(key, i+round, 1) != seal.Nonce(key, i, 1) || seal.Proof(key, i+round, 1, n) != seal.Proof(key, i, 1, n) ||
				seal.Proof(key, 1, i+round, n) != seal.Proof(key, 1, i, n) || seal.Key(key, i+round, 1, n) != seal.Key(key, i, 1, n) ||
				seal.Key(key, 1, i+round, n) != seal.Key(key, 1, i, n) {
				t.Errorf("%d and %d are told apart", i, i+round)
			}
			alike := round != 256 && round != -256
			if (seal.Nonce(key, 1, i+round) == seal.Nonce(key, 1, i)) != alike {
				t.Errorf("the challenges %d and %d are alike: %v, want %v", i, i+round, !alike, alike)
			}
		}
	}
	seen := map[nonce]bool{}
	for source := range 256 {
		seen[seal.Nonce(key, source, 1)] = true
		seen[seal.Proof(key, source, 300, n)] = true
	}
	for role := range 256 {
		seen[seal.Proof(key, 300, role, n)] = true
	}
	if len(seen) != 3*256-1 { // the source 44 and the role 44 are there twice
		t.Errorf("of 767 challenges and proofs, %d are apart", len(seen))
	}
}

// P9.1: no part stands where another one does: each change of a key, a source, a role, a number or a nonce is another answer.
func TestApart(t *testing.T) {
	seen := map[string]bool{}
	add := func(b []byte) {
		t.Helper()
		if seen[string(b)] {
			t.Fatalf("%x is told twice", b)
		}
		seen[string(b)] = true
	}
	for _, key := range [][]byte{[]byte("k"), []byte("l"), mixed(64), mixed(65)} {
		for source := range 5 {
			for i := range 4 {
				s := seal.Nonce(key, source, i)
				add(s[:])
				s = seal.Nonce(key, source, (i+1)<<24)
				add(s[:])
				for _, n := range nonces() {
					s = seal.Proof(key, source, i, n)
					add(s[:])
					whole := seal.Key(key, source, i, n)
					add(whole[:8])
				}
			}
		}
	}
}

// checkClosed holds Close against the chapter's words, and opens what it tells.
func checkClosed(t *testing.T, key [32]byte, source int, body []byte) []byte {
	t.Helper()
	closed := seal.Close(key, source, body)
	if want := plainClose(key, source, body); !bytes.Equal(closed, want) {
		t.Fatalf("Close(%x, %d, %v) = %v, want %v", key, source, body, closed, want)
	}
	if len(closed) != len(body)+8 {
		t.Fatalf("Close of %d bytes has %d", len(body), len(closed))
	}
	if got, e := seal.Open(key, source, closed); !bytes.Equal(got, body) || e != api.OK {
		t.Fatalf("Open(%x, %d, %v) = %v, %d, want %v, OK", key, source, closed, got, e, body)
	}
	return closed
}

func checkRefused(t *testing.T, key [32]byte, source int, b []byte) {
	t.Helper()
	if got, e := seal.Open(key, source, b); got != nil || e != api.ErrTag {
		t.Fatalf("Open(%x, %d, %v) = %v, %d, want nil, ErrTag", key, source, b, got, e)
	}
}

// P9.2 and P9.3: Close against the chapter's words, 8 bytes longer, and opened, by each key, as each source.
func TestClose(t *testing.T) {
	for _, key := range sealKeys() {
		for _, body := range bodies() {
			for source := range 5 {
				checkClosed(t, key, source, body)
			}
		}
		for _, source := range numbers() {
			checkClosed(t, key, source, []byte("body"))
		}
	}
	checkClosed(t, sealKeys()[2], 1, mixed(1<<20+3))
}

// P9.2: fewer than 8 bytes: ErrTag, the beginning of what was closed among them; 8 are of nothing closed, or of none.
func TestOpenShort(t *testing.T) {
	for _, key := range sealKeys() {
		nothing := checkClosed(t, key, 1, nil)
		for size := range 8 {
			checkRefused(t, key, 1, nothing[:size])
			checkRefused(t, key, 1, nothing[8-size:])
			checkRefused(t, key, 1, make([]byte, size))
			checkRefused(t, key, 1, mixed(size))
		}
		checkRefused(t, key, 1, nil)
		checkRefused(t, key, 1, make([]byte, 8))
		checkRefused(t, key, 1, mixed(8))
	}
}

// P9.2: each bit turned, bytes missing, added, or in another order: ErrTag each.
func TestOpenBroken(t *testing.T) {
	key := sealKeys()[2]
	for _, body := range [][]byte{nil, {0}, []byte("body"), mixed(16), mixed(24)} {
		closed := checkClosed(t, key, 3, body)
		for i := range 8 * len(closed) {
			b := bytes.Clone(closed)
			b[i/8] ^= 128 >> (i % 8)
			checkRefused(t, key, 3, b)
			for j := range closed {
				c := bytes.Clone(b)
				if j != i/8 {
					c[j] ^= 128 >> (i % 8)
					checkRefused(t, key, 3, c)
				}
			}
		}
		for i := range closed {
			checkRefused(t, key, 3, closed[:i])
			checkRefused(t, key, 3, closed[i+1:])
			checkRefused(t, key, 3, append(bytes.Clone(closed[:i]), closed[i+1:]...))
		}
		checkRefused(t, key, 3, append(bytes.Clone(closed), 0))
		checkRefused(t, key, 3, append([]byte{0}, closed...))
		checkRefused(t, key, 3, append(bytes.Clone(closed), closed...))
		checkRefused(t, key, 3, append(bytes.Clone(closed[len(body):]), 1))
		checkRefused(t, key, 3, body)
		turned := append(bytes.Clone(closed[len(body):]), body...)
		if !bytes.Equal(turned, closed) {
			checkRefused(t, key, 3, turned)
		}
	}
}

// P9.2: bodies with another tag behind them, that of another sum, or a part of the right one: ErrTag each.
func TestOpenWrongTag(t *testing.T) {
	key, body := sealKeys()[2], mixed(12)
	whole := plainOf(key[:], []byte{77, 2}, body)
	for _, tag := range [][]byte{whole[1:9], whole[24:], whole[:], whole[:7], whole[:9], make([]byte, 8)} {
		checkRefused(t, key, 2, append(bytes.Clone(body), tag...))
	}
	for _, pieces := range [][][]byte{{body}, {{2}, body}, {{77}, body}, {{2, 77}, body}, {{77}, body, {2}}, {{77, 2}, body, {0}}, {{77, 2}}} {
		tag := plainTag(key[:], pieces...)
		checkRefused(t, key, 2, append(bytes.Clone(body), tag[:]...))
	}
	for what := range 256 {
		tag := plainTag(key[:], []byte{byte(what), 2}, body)
		if b := append(bytes.Clone(body), tag[:]...); what != 77 {
			checkRefused(t, key, 2, b)
		} else if got, e := seal.Open(key, 2, b); !bytes.Equal(got, body) || e != api.OK {
			t.Errorf("Open(%v) = %v, %d, want %v, OK", b, got, e, body)
		}
	}
}

// P9.3: what was closed is opened as that source's, as none of the others up to 255, and as those that stand as the same byte.
func TestSources(t *testing.T) {
	key := sealKeys()[3]
	for _, source := range []int{0, 1, 2, 3, 4, 127, 128, 254, 255} {
		closed := checkClosed(t, key, source, []byte("body"))
		for other := range 256 {
			if other != source {
				checkRefused(t, key, other, closed)
			}
		}
		for _, same := range []int{source + 256, source - 256, source + 1<<40, source + math.MinInt} {
			if got, e := seal.Open(key, same, closed); string(got) != "body" || e != api.OK {
				t.Errorf("Open as %d of what was closed as %d = %v, %d, want body, OK", same, source, got, e)
			}
		}
	}
}

// P9.3: what was closed is opened by nobody who has another key, be it apart in a single bit.
func TestOtherKeys(t *testing.T) {
	for _, key := range sealKeys() {
		closed := checkClosed(t, key, 1, mixed(16))
		for i := range 256 {
			other := key
			other[i/8] ^= 128 >> (i % 8)
			checkRefused(t, other, 1, closed)
		}
	}
	n := seal.Nonce([]byte("m"), 1, 1)
	closed := checkClosed(t, seal.Key([]byte("s"), 1, 2, n), 1, []byte("body"))
	for _, other := range [][32]byte{
		seal.Key([]byte("t"), 1, 2, n), seal.Key([]byte("s"), 2, 2, n),
		seal.Key([]byte("s"), 1, 1, n), seal.Key([]byte("s"), 1, 2, seal.Nonce([]byte("m"), 1, 2)),
	} {
		checkRefused(t, other, 1, closed)
	}
}

// P9.3: what is closed twice is opened twice, the last source's first.
func TestTwice(t *testing.T) {
	key := sealKeys()[2]
	for _, body := range bodies() {
		once := checkClosed(t, key, 1, body)
		twice := checkClosed(t, key, 2, once)
		checkRefused(t, key, 1, twice)
		if got, e := seal.Open(key, 2, twice); !bytes.Equal(got, once) || e != api.OK {
			t.Fatalf("Open = %v, %d, want %v, OK", got, e, once)
		}
	}
}

// spoil turns all bytes that the caller of a call could write to.
func spoil(b []byte) {
	b = b[:cap(b)]
	for i := range b {
		b[i] ^= 255
	}
}

// R7: nothing handed in is changed, nor what lies behind it, which counts for nothing, and each answer is the caller's own.
func TestOwnMemory(t *testing.T) {
	secret, whole, key := mixed(300), mixed(301), sealKeys()[2]
	keptSecret, kept := bytes.Clone(secret), bytes.Clone(whole)
	for size := range 100 {
		k, body := secret[:size], whole[:size]
		if got, want := seal.Nonce(k, 2, 3), plainNonce(bytes.Clone(k), 2, 3); got != want {
			t.Fatalf("Nonce by %d bytes with others behind them = %x, want %x", size, got, want)
		}
		if got, want := seal.Proof(k, 2, 3, nonce{4}), plainProof(bytes.Clone(k), 2, 3, nonce{4}); got != want {
			t.Fatalf("Proof by %d bytes with others behind them = %x, want %x", size, got, want)
		}
		if got, want := seal.Key(k, 2, 3, nonce{4}), plainKey(bytes.Clone(k), 2, 3, nonce{4}); got != want {
			t.Fatalf("Key by %d bytes with others behind them = %x, want %x", size, got, want)
		}
		closed := seal.Close(key, 2, body)
		want := plainClose(key, 2, bytes.Clone(body))
		if !bytes.Equal(closed, want) {
			t.Fatalf("Close of %d bytes with others behind them = %v, want %v", size, closed, want)
		}
		spoil(closed)
		room := append(bytes.Clone(want), mixed(40)...)
		keptRoom := bytes.Clone(room)
		opened, e := seal.Open(key, 2, room[:size+8])
		if !bytes.Equal(opened, body) || e != api.OK {
			t.Fatalf("Open of %d bytes with others behind them = %v, %d, want %v, OK", size+8, opened, e, body)
		}
		spoil(opened)
		if !bytes.Equal(room, keptRoom) {
			t.Fatalf("Open of %d bytes shares them with its answer, or changed them", size+8)
		}
		opened, _ = seal.Open(key, 2, room[:size+8])
		spoil(room)
		if !bytes.Equal(opened, body) {
			t.Fatalf("what Open told of %d bytes changes as they do", size+8)
		}
	}
	if !bytes.Equal(secret, keptSecret) || !bytes.Equal(whole, kept) {
		t.Error("a call changed what it was given, or shares it with its answer")
	}
}

// R7: what Open refuses is not changed, and Close's answer does not change as the body does.
func TestNothingChanged(t *testing.T) {
	key, body := sealKeys()[2], mixed(20)
	closed := seal.Close(key, 1, body)
	kept := bytes.Clone(closed)
	checkRefused(t, key, 2, closed)
	checkRefused(t, key, 1, closed[:19])
	checkRefused(t, key, 1, closed[:5])
	spoil(body)
	if !bytes.Equal(closed, kept) {
		t.Errorf("what was closed is %v, and was %v", closed, kept)
	}
}

// R6: answers hang on the arguments alone, whatever was called ahead, or is called at the same time.
func TestSameAgain(t *testing.T) {
	secret, body, key := mixed(40), mixed(24), sealKeys()[3]
	closed := plainClose(key, 3, body)
	var group sync.WaitGroup
	for range 8 {
		group.Go(func() {
			for i := range 50 {
				if seal.Nonce(secret, 1, i) != plainNonce(secret, 1, i) || seal.Proof(secret, 1, i, nonce{1}) != plainProof(secret, 1, i, nonce{1}) ||
					seal.Key(secret, 1, i, nonce{1}) != plainKey(secret, 1, i, nonce{1}) {
					t.Errorf("a challenge, a proof or a key of %d is another one", i)
				}
				if got := seal.Close(key, 3, body); !bytes.Equal(got, closed) {
					t.Errorf("Close = %v, want %v", got, closed)
				}
				if got, e := seal.Open(key, 3, closed); !bytes.Equal(got, body) || e != api.OK {
					t.Errorf("Open = %v, %d, want %v, OK", got, e, body)
				}
				if got, e := seal.Open(key, 2, closed); got != nil || e != api.ErrTag {
					t.Errorf("Open = %v, %d, want nil, ErrTag", got, e)
				}
			}
		})
	}
	group.Wait()
}

// R1, R2: whatever bytes, sources and lengths there are: Open ends, and tells nothing but what was closed.
func TestOpenAnything(t *testing.T) {
	for _, key := range sealKeys() {
		for size := range 80 {
			for _, source := range []int{0, 4, -1, 256, math.MinInt, math.MaxInt} {
				checkRefused(t, key, source, mixed(size))
				checkRefused(t, key, source, make([]byte, size))
				checkRefused(t, key, source, bytes.Repeat([]byte{255}, size))
			}
		}
	}
	checkRefused(t, sealKeys()[0], 1, mixed(1<<20))
}
