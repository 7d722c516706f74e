// Package num is layer 1: numbers that end: see shared/doc/01-num.md.
package num

// highestBit is the last one that a number from 0 on can have: the one above it is the sign.
const highestBit = 62

// Sat counts on to most, and no farther: what is counted never goes round.
func Sat(n, most int) int {
	if n < most {
		return n + 1
	}
	return most
}

// Clamp looks at low first, which is what tells where low is above high.
func Clamp(n, low, high int) int {
	if n < low {
		return low
	}
	if n > high {
		return high
	}
	return n
}

// Toward goes from now to to by steps, and ends there; a by below 1 would never come there, so it stays.
func Toward(now, to, by int) int {
	if by < 1 {
		return now
	}
	if apart(now, to) <= uint64(by) {
		return to
	}
	if to > now {
		return now + by
	}
	return now - by
}

// apart has no sign, because two numbers may stand farther apart than an int can tell.
func apart(a, b int) uint64 {
	if a < b {
		return uint64(b) - uint64(a)
	}
	return uint64(a) - uint64(b)
}

// Has tells false of whatever is no set, or no place in one, so that callers need not look first.
func Has(set, i int) bool {
	return set >= 0 && i >= 0 && i <= highestBit && set>>i&1 == 1
}
