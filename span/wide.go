package span

import "cmp"

// half is the greatest number of half a word.
const half = 1<<32 - 1

// wide is a number of two words: hi times 2^64, and lo.
type wide struct {
	hi, lo uint64
}

// size is a number without its sign; that of the least int fits, too.
func size(n int) uint64 {
	if n < 0 {
		return -uint64(n)
	}
	return uint64(n)
}

// gcd is the greatest number that divides both.
func gcd(a, b uint64) uint64 {
	for b > 0 {
		a, b = b, a%b
	}
	return a
}

// times is the product of two words, of the four products of their halves.
func times(a, b uint64) wide {
	low := (a & half) * (b & half)
	// Neither of the two sums in the middle exceeds a word: (2^32-1)^2 + 2^32-1 is less than 2^64.
	one := (a>>32)*(b&half) + low>>32
	two := (a&half)*(b>>32) + one&half
	return wide{hi: (a>>32)*(b>>32) + one>>32 + two>>32, lo: two<<32 | low&half}
}

// plus is the sum of two numbers of less than 127 bits.
func plus(a, b wide) wide {
	s := wide{hi: a.hi + b.hi, lo: a.lo + b.lo}
	if s.lo < a.lo {
		s.hi++
	}
	return s
}

// minus is the difference of two numbers, the first one not less than the other.
func minus(a, b wide) wide {
	s := wide{hi: a.hi - b.hi, lo: a.lo - b.lo}
	if a.lo < b.lo {
		s.hi--
	}
	return s
}

// compare holds two numbers against each other.
func compare(a, b wide) int {
	return cmp.Or(cmp.Compare(a.hi, b.hi), cmp.Compare(a.lo, b.lo))
}

// divide is the quotient of a number by one from 1 to 2^63, and what is left.
func divide(a wide, d uint64) (wide, uint64) {
	if a.hi == 0 {
		return wide{lo: a.lo / d}, a.lo % d
	}
	q, left := wide{hi: a.hi / d}, a.hi%d
	for range 64 {
		left = left<<1 | a.lo>>63
		a.lo <<= 1
		q.lo <<= 1
		if left >= d {
			left -= d
			q.lo |= 1
		}
	}
	return q, left
}
