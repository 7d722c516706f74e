package mac_test

import (
	"bytes"
	"crypto/hmac"
	"crypto/sha256"
	"encoding/hex"
	"strings"
	"testing"

	"sidestick/mac"
	"sidestick/sha"
)

// mixed is so many bytes of all kinds, the same ones each time.
func mixed(size int) []byte {
	b := make([]byte, size)
	n := uint32(size)*2654435761 + 1
	for i := range b {
		n = n*1664525 + 1013904223
		b[i] = byte(n >> 24)
	}
	return b
}

// library is the library's HMAC with SHA-256.
func library(key, b []byte) [32]byte {
	h := hmac.New(sha256.New, key)
	h.Write(b)
	return [32]byte(h.Sum(nil))
}

// plain is Of by the chapter's words, byte by byte.
func plain(key, b []byte) [32]byte {
	if len(key) > 64 {
		s := sha.Sum(key)
		key = s[:]
	}
	var first, second []byte
	for i := range 64 {
		var k byte
		if i < len(key) {
			k = key[i]
		}
		first = append(first, k^54)
		second = append(second, k^92)
	}
	inner := sha.Sum(append(first, b...))
	return sha.Sum(append(second, inner[:]...))
}

// keys are those of each length around the 64 bytes: of noughts, of ones that XOR turns to noughts, and mixed.
func keys() [][]byte {
	l := [][]byte{nil}
	for size := range 140 {
		for _, c := range []byte{0, 54, 92, 255} {
			l = append(l, bytes.Repeat([]byte{c}, size))
		}
		l = append(l, mixed(size))
	}
	return append(l, mixed(1000), mixed(4096))
}

// P5.1: what the chapter, and the tables of RFC 4231 for SHA-256, write out: short keys, one of no bytes, long keys, long bytes.
func TestOf(t *testing.T) {
	some := ""
	for i := 1; i <= 25; i++ {
		some += string([]byte{byte(i)})
	}
	for _, x := range []struct{ key, b, want string }{
		{strings.Repeat("\x0b", 20), "Hi There", "b0344c61d8db38535ca8afceaf0bf12b881dc200c9833da726e9376c2e32cff7"},
		{"Jefe", "what do ya want for nothing?", "5bdcc146bf60754e6a042426089575c75a003f089d2739839dec58b964ec3843"},
		{strings.Repeat("\xaa", 20), strings.Repeat("\xdd", 50), "773ea91e36800e46854db8ebd09181a72959098b3ef8c122d9635514ced565fe"},
		{some, strings.Repeat("\xcd", 50), "82558a389a443c0ea4cc819899f2083a85f0faa3e578f8077a2e3ff46729665b"},
		{strings.Repeat("\xaa", 131), "Test Using Larger Than Block-Size Key - Hash Key First", "60e431591ee0b67f0d8a26aacbf5b77f8e0bc6213728c5140546040f0ee37f54"},
		{strings.Repeat("\xaa", 131), "This is a test using a larger than block-size key and a larger than block-size data. The key needs to be hashed before being used by the HMAC algorithm.", "9b09ffa71b942fcb27635fbcd5b0e944bfdc63644f0713938a7f51535c3a35e2"},
		{"", "", "b613679a0814d9ec772f95d778c35fc5ff1697c493715653c6c712144292c5ad"},
	} {
		if got := mac.Of([]byte(x.key), []byte(x.b)); hex.EncodeToString(got[:]) != x.want {
			t.Errorf("Of(%q, %q) = %x, want %s", x.key, x.b, got, x.want)
		}
	}
	if got, want := mac.Of(nil, nil), mac.Of([]byte{}, []byte{}); got != want {
		t.Errorf("Of(nil, nil) = %x, want that of no bytes, %x", got, want)
	}
}

// P5.1: against the chapter's words and the library's HMAC, by keys of each length, of bytes of each length.
func TestOfByWords(t *testing.T) {
	for i, key := range keys() {
		for _, b := range [][]byte{nil, {0}, mixed(i % 200), bytes.Repeat([]byte{255}, 64), mixed(1000)} {
			got := mac.Of(key, b)
			if want := plain(key, b); got != want {
				t.Fatalf("Of(%v, %v) = %x, want %x", key, b, got, want)
			}
			if want := library(key, b); got != want {
				t.Fatalf("Of(%v, %v) = %x, the library has %x", key, b, got, want)
			}
		}
	}
	for size := range 300 {
		if got, want := mac.Of(mixed(32), mixed(size)), library(mixed(32), mixed(size)); got != want {
			t.Fatalf("Of %d bytes = %x, the library has %x", size, got, want)
		}
	}
	key, b := mixed(1<<20+3), mixed(1<<21+5)
	if got, want := mac.Of(key, b), library(key, b); got != want {
		t.Errorf("Of %d bytes by a key of %d = %x, the library has %x", len(b), len(key), got, want)
	}
}

// P5.1: another bit of the key or of the bytes is another sum, and a byte that goes from one to the other too.
func TestOfAllBits(t *testing.T) {
	for _, size := range []int{1, 32, 64, 65, 100} {
		key, b := mixed(size), mixed(70)
		seen := map[[32]byte]bool{mac.Of(key, b): true}
		for _, l := range [][]byte{key, b} {
			for i := range 8 * len(l) {
				l[i/8] ^= 128 >> (i % 8)
				s := mac.Of(key, b)
				l[i/8] ^= 128 >> (i % 8)
				if seen[s] {
					t.Fatalf("key of %d bytes: bit %d turned is of a sum that was there", size, i)
				}
				seen[s] = true
			}
		}
	}
	whole := mixed(30)
	seen := map[[32]byte]bool{}
	for i := range len(whole) + 1 {
		s := mac.Of(whole[:i], whole[i:])
		if seen[s] {
			t.Errorf("the key's end at %d is of a sum that was there", i)
		}
		seen[s] = true
	}
}

// P5.2: the tag written out, and that it is the beginning of Of, whatever the key and the bytes.
func TestTag(t *testing.T) {
	want := [8]byte{0x5B, 0xDC, 0xC1, 0x46, 0xBF, 0x60, 0x75, 0x4E}
	if got := mac.Tag([]byte("Jefe"), []byte("what do ya want for nothing?")); got != want {
		t.Errorf("Tag = %X, want %X", got, want)
	}
	for i, key := range keys() {
		b := mixed(i % 130)
		whole := library(key, b)
		if got := mac.Tag(key, b); string(got[:]) != string(whole[:8]) {
			t.Errorf("Tag(%v, %v) = %x, want %x", key, b, got, whole[:8])
		}
	}
}

// P5.2: Same of the same bytes, in another place, of none, and of nil.
func TestSame(t *testing.T) {
	for size := range 100 {
		a := mixed(size)
		if !mac.Same(a, a) || !mac.Same(a, bytes.Clone(a)) {
			t.Errorf("Same says that %v is not itself", a)
		}
	}
	for _, x := range [][2][]byte{{nil, nil}, {nil, {}}, {{}, nil}, {{}, {}}, {mixed(9)[:0], nil}} {
		if !mac.Same(x[0], x[1]) {
			t.Errorf("Same(%#v, %#v) is false, and both are no bytes", x[0], x[1])
		}
	}
	whole := mixed(1<<16 + 1)
	if !mac.Same(whole, bytes.Clone(whole)) {
		t.Errorf("Same says that %d bytes are not themselves", len(whole))
	}
}

// P5.2: Same of others: each bit turned, two of them turned alike, one byte more or less, in front or behind, the same ones in another order.
func TestSameOfOthers(t *testing.T) {
	apart := func(a, b []byte) {
		t.Helper()
		if mac.Same(a, b) || mac.Same(b, a) {
			t.Errorf("Same(%v, %v) is true", a, b)
		}
	}
	for _, size := range []int{1, 2, 7, 8, 9, 32, 33} {
		a := mixed(size)
		for i := range 8 * size {
			b := bytes.Clone(a)
			b[i/8] ^= 128 >> (i % 8)
			apart(a, b)
			for j := range size {
				c := bytes.Clone(b)
				if j != i/8 {
					c[j] ^= 128 >> (i % 8)
					apart(a, c)
				}
			}
		}
		apart(a, a[:size-1])
		apart(a, a[1:])
		apart(a, append(bytes.Clone(a), 0))
		apart(a, append([]byte{0}, a...))
		apart(a, append(bytes.Clone(a), a...))
		apart(a, nil)
	}
	for size := 1; size < 20; size++ {
		apart(make([]byte, size), make([]byte, size-1))
		apart(make([]byte, size), bytes.Repeat([]byte{255}, size))
	}
	apart([]byte("ab"), []byte("ba"))
	apart(make([]byte, 256), nil)
	apart(make([]byte, 257), make([]byte, 1))
}

// P5.3: a key of more than 64 bytes and its sum, one of 64 at most and itself with noughts behind it; one of 64 is not as good as its sum.
func TestKeys(t *testing.T) {
	b := mixed(50)
	for size := 65; size < 200; size++ {
		key := mixed(size)
		s := sha.Sum(key)
		if got, want := mac.Of(key, b), mac.Of(s[:], b); got != want {
			t.Errorf("a key of %d bytes has %x, its sum %x", size, got, want)
		}
	}
	for size := range 65 {
		key := mixed(size)
		want := mac.Of(key, b)
		for longer := size; longer <= 64; longer++ {
			if got := mac.Of(append(bytes.Clone(key), make([]byte, longer-size)...), b); got != want {
				t.Errorf("a key of %d bytes has %x, with noughts up to %d %x", size, want, longer, got)
			}
		}
		if got := mac.Of(append(bytes.Clone(key), make([]byte, 65-size)...), b); got == want {
			t.Errorf("a key of %d bytes has the sum of that with noughts up to 65", size)
		}
		if s := sha.Sum(key); mac.Of(s[:], b) == want {
			t.Errorf("a key of %d bytes is as good as its sum", size)
		}
	}
}

// R1, R6 and R7: what is handed in is not changed, nor what lies behind it, which counts for nothing, and each call answers the same again.
func TestOwn(t *testing.T) {
	keys, all := mixed(300), mixed(301)
	keptKeys, kept := bytes.Clone(keys), bytes.Clone(all)
	for size := range 150 {
		key, b := keys[:size], all[:size]
		own := mac.Of(bytes.Clone(key), bytes.Clone(b))
		if got := mac.Of(key, b); got != own {
			t.Errorf("Of %d bytes = %x with bytes behind them, %x without", size, got, own)
		}
		if again := mac.Of(key[:size:size], b[:size:size]); again != own {
			t.Errorf("Of %d bytes = %x, and then %x", size, own, again)
		}
		if tag := mac.Tag(key, b); string(tag[:]) != string(own[:8]) {
			t.Errorf("Tag of %d bytes = %x, want %x", size, tag, own[:8])
		}
		if mac.Same(key, bytes.Clone(key)) != mac.Same(key[:size:size], key) {
			t.Errorf("Same of %d bytes hangs on what is behind them", size)
		}
	}
	if !bytes.Equal(keys, keptKeys) || !bytes.Equal(all, kept) {
		t.Errorf("a call changed its bytes to %v, %v", keys, all)
	}
}

// R7: a key and bytes that share their memory are seen as they are handed in.
func TestShared(t *testing.T) {
	whole := mixed(200)
	for i := range 100 {
		key, b := whole[i:i+70], whole[:i+10]
		if got, want := mac.Of(key, b), library(bytes.Clone(key), bytes.Clone(b)); got != want {
			t.Errorf("Of shared bytes from %d on = %x, want %x", i, got, want)
		}
	}
	if !bytes.Equal(whole, mixed(200)) {
		t.Error("Of changed shared bytes")
	}
}
