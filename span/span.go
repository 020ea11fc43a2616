// Package span is layer 1: exact time, non-negative fractions and infinity.
package span

import (
	"math"
	"strconv"
	"strings"

	"gavotte/api"
)

// Never is the time without an end.
func Never() api.Time { return api.Time{N: 1, D: 0} }

// Right tells whether a time is as it should be.
func Right(t api.Time) bool {
	if t == Never() {
		return true
	}
	return t.D > 0 && t.N >= 0 && gcd(uint64(t.N), uint64(t.D)) == 1
}

// Make makes a time of n through d.
func Make(n, d int) (api.Time, api.Errno) {
	if d == 0 {
		return api.Time{}, api.ErrZero
	}
	if n < 0 && d > 0 || n > 0 && d < 0 {
		return api.Time{}, api.ErrTime
	}
	x, y := size(n), size(d)
	g := gcd(x, y)
	return fit(wide{lo: x / g}, wide{lo: y / g})
}

// Whole makes a time of a whole number.
func Whole(n int) (api.Time, api.Errno) { return Make(n, 1) }

// Cmp holds two times against each other.
func Cmp(a, b api.Time) int {
	if !Right(a) || !Right(b) {
		return 0
	}
	// The time without an end needs no case of its own: its D of 0 makes the other side nought.
	return compare(times(uint64(a.N), uint64(b.D)), times(uint64(b.N), uint64(a.D)))
}

// Min is the least of the times that are right.
func Min(l ...api.Time) api.Time {
	least := Never()
	for _, t := range l {
		if Cmp(t, least) < 0 {
			least = t
		}
	}
	return least
}

// Add is the sum of two times.
func Add(a, b api.Time) (api.Time, api.Errno) {
	if !Right(a) || !Right(b) {
		return api.Time{}, api.ErrArg
	}
	if a == Never() || b == Never() {
		return Never(), api.OK
	}
	return together(a, b, plus)
}

// Sub is the difference of two times.
func Sub(a, b api.Time) (api.Time, api.Errno) {
	if !Right(a) || !Right(b) {
		return api.Time{}, api.ErrArg
	}
	if b == Never() || Cmp(a, b) < 0 {
		return api.Time{}, api.ErrTime
	}
	if a == Never() {
		return Never(), api.OK
	}
	return together(a, b, minus)
}

// Text is a time in decimal.
func Text(t api.Time) string {
	switch {
	case !Right(t):
		return ""
	case t == Never():
		return "never"
	case t.D == 1:
		return strconv.Itoa(t.N)
	}
	return strconv.Itoa(t.N) + "/" + strconv.Itoa(t.D)
}

// Read reads a time.
func Read(s string) (api.Time, api.Errno) {
	t, ok := parse(s)
	// Asking for the text again refuses all other ways to write a time: signs, noughts ahead, what can be reduced.
	if !ok || Text(t) != s {
		return api.Time{}, api.ErrWord
	}
	return t, api.OK
}

// parse takes a text apart, and is more lenient than Read.
func parse(s string) (api.Time, bool) {
	if s == Text(Never()) {
		return Never(), true
	}
	top, bottom, through := strings.Cut(s, "/")
	if !through {
		bottom = "1"
	}
	n, e := strconv.Atoi(top)
	if e != nil {
		return api.Time{}, false
	}
	d, e := strconv.Atoi(bottom)
	return api.Time{N: n, D: d}, e == nil
}

// together adds or subtracts two fractions with an end. What their Ds have in
// common is taken out ahead of the products, so that these fit into two words,
// and what is left of it in the numerator behind them, so that the answer is reduced.
func together(a, b api.Time, put func(a, b wide) wide) (api.Time, api.Errno) {
	common := gcd(uint64(a.D), uint64(b.D))
	left, right := uint64(a.D)/common, uint64(b.D)/common
	top := put(times(uint64(a.N), right), times(uint64(b.N), left))
	_, rest := divide(top, common)
	g := gcd(common, rest)
	n, _ := divide(top, g)
	return fit(n, times(left, uint64(b.D)/g))
}

// fit makes a time of a reduced fraction.
func fit(n, d wide) (api.Time, api.Errno) {
	if n.hi > 0 || d.hi > 0 || n.lo > math.MaxInt || d.lo > math.MaxInt {
		return api.Time{}, api.ErrLarge
	}
	return api.Time{N: int(n.lo), D: int(d.lo)}, api.OK
}
