package msg_test

import (
	"encoding/binary"
	"maps"
	"math"
	"slices"

	"sidestick/api"
)

// The chapter's tables, apart from the program's own: what a letter may be, and the letters of each Kind.
type part struct{ size, least, most int }

var letters = map[byte]part{
	'S': {4, 0, 1<<32 - 1}, // Seq
	'E': {2, 0, 65535},     // Epoch
	'R': {1, 0, 3},         // Role
	'T': {1, 0, 4},         // To
	'M': {1, 0, 4},         // Mode
	'C': {1, 1, 3},         // Class
	'N': {1, 0, 1},         // Now
	'X': {2, -32768, 32767},
	'W': {1, 0, 4},   // Who
	'D': {1, 0, 255}, // Code
	'B': {1, 0, 255}, // a byte of Nonce
}

var messageKinds = map[int]string{
	1: "R", 2: "R",
	3: "S", 4: "S", 8: "S", 9: "S",
	5:  "SN",
	6:  "ST",
	7:  "SE",
	10: "SEM",
	11: "SECX",
}

var replyKinds = map[int]string{
	129: "B",
	130: "RWE",
	131: "S",
	132: "SD",
	133: "E",
	134: "WE", 135: "WE",
	136: "WD",
}

// parts is what stands in a message or a reply, by letters.
type parts map[byte][]int

func messageParts(m api.Msg) parts {
	now := 0
	if m.Now {
		now = 1
	}
	return parts{'S': {m.Seq}, 'R': {m.Role}, 'T': {m.To}, 'E': {m.Epoch}, 'M': {m.Mode}, 'C': {m.Class}, 'N': {now}, 'X': m.X[:]}
}

func replyParts(r api.Reply) parts {
	var nonce []int
	for _, c := range r.Nonce {
		nonce = append(nonce, int(c))
	}
	return parts{'S': {r.Seq}, 'R': {r.Role}, 'W': {r.Who}, 'E': {r.Epoch}, 'D': {int(r.Code)}, 'B': nonce}
}

// plainPut is Put by the chapter's words: nil, if it may not be put.
func plainPut(kinds map[int]string, kind int, p parts) []byte {
	names, ok := kinds[kind]
	if !ok {
		return nil
	}
	b := []byte{byte(kind)}
	for _, name := range []byte(names) {
		x := letters[name]
		for _, n := range p[name] {
			if n < x.least || n > x.most {
				return nil
			}
			b = append(b, binary.BigEndian.AppendUint64(nil, uint64(n))[8-x.size:]...)
		}
		delete(p, name)
	}
	for _, unnamed := range p {
		if slices.ContainsFunc(unnamed, func(n int) bool { return n != 0 }) {
			return nil
		}
	}
	return b
}

// plainTake is what bytes tell by the chapter's words, in the lists of blank, which are all noughts; false, if they tell nothing.
func plainTake(kinds map[int]string, b []byte, blank parts) (int, parts, bool) {
	if len(b) == 0 {
		return 0, nil, false
	}
	kind := int(b[0])
	names, ok := kinds[kind]
	b = b[1:]
	for _, name := range []byte(names) {
		x := letters[name]
		for i := range blank[name] {
			if len(b) < x.size {
				return 0, nil, false
			}
			n := 0
			for _, c := range b[:x.size] {
				n = n*256 + int(c)
			}
			if x.least < 0 && n > x.most {
				n -= 65536
			}
			if n < x.least || n > x.most {
				return 0, nil, false
			}
			blank[name][i] = n
			b = b[x.size:]
		}
	}
	return kind, blank, ok && len(b) == 0
}

func sameParts(a, b parts) bool {
	return maps.EqualFunc(a, b, func(x, y []int) bool { return slices.Equal(x, y) })
}

// mixed is so many bytes of all kinds, the same ones each time.
func mixed(size int) []byte {
	b := make([]byte, size)
	n := uint32(size)*2654435761 + 1
	for i := range b {
		n = n*1664525 + 1013904223
		b[i] = byte(n >> 24)
	}
	return b
}

// edges are numbers at which some field, or some size, ends, or goes round.
func edges() []int {
	l := []int{math.MinInt, math.MinInt + 1, math.MaxInt - 1, math.MaxInt}
	for n := -3; n <= 6; n++ {
		l = append(l, n)
	}
	for _, places := range []int{7, 8, 15, 16, 24, 31, 32, 33, 40, 48, 62} {
		n := 1 << places
		l = append(l, n-2, n-1, n, n+1, n+2, n+3, -n-1, -n, 1-n)
	}
	return l
}

// noKinds are Kinds of neither a message nor a reply.
func noKinds() []int {
	l := []int{math.MinInt, math.MaxInt, math.MinInt + 1, math.MinInt + 129, 1 << 32, 1<<32 + 3}
	for n := -300; n <= 1100; n++ {
		if messageKinds[n] == "" && replyKinds[n] == "" {
			l = append(l, n)
		}
	}
	return l
}

// spoil turns all that a list has, and all that there is behind it.
func spoil(b []byte) {
	b = b[:cap(b)]
	for i := range b {
		b[i] ^= 0xff
	}
}
