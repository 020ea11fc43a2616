package stamp_test

import (
	"cmp"
	"math"
	"math/big"
	"slices"
	"testing"

	"gavotte/api"
	"gavotte/span"
	"gavotte/stamp"
)

// most is the greatest number of a stamp.
const most = 1 << 40

// at is the stamp of n through d with a number.
func at(n, d, c int) stamp.Stamp { return stamp.Stamp{T: api.Time{N: n, D: d}, C: c} }

// never is the stamp without an end, as the document writes it.
var never = at(1, 0, 0)

// wrong are stamps that aren't right.
var wrong = []stamp.Stamp{
	{}, at(0, 0, 1), at(0, 2, 0), at(2, 4, 0), at(2, 0, 0), at(-1, 1, 0), at(1, -1, 0), at(-1, 0, 0), at(0, -1, 0), at(math.MinInt, 1, 0), at(1, math.MinInt, 0), at(math.MaxInt, math.MaxInt, 0),
	at(0, 1, -1), at(1, 1, -1), at(1, 2, math.MinInt), at(1, 1, -most), at(0, 1, most+1), at(1, 2, most+1), at(3, 1, math.MaxInt), at(3, 1, 1<<41), at(1, 1, 1<<62),
	at(1, 0, 1), at(1, 0, -1), at(1, 0, most), at(1, 0, most+1), at(1, 0, math.MinInt), at(2, 4, -1), at(2, 0, 1),
}

// rising are stamps that are right, each greater than those ahead of it.
func rising() []stamp.Stamp {
	var l []stamp.Stamp
	for _, t := range []api.Time{{N: 0, D: 1}, {N: 1, D: math.MaxInt}, {N: 1, D: math.MaxInt - 1}, {N: 1, D: 3}, {N: 1, D: 2}, {N: 2, D: 3}, {N: 1, D: 1}, {N: 3, D: 2}, {N: 7, D: 1}, {N: math.MaxInt - 1, D: 1}, {N: math.MaxInt, D: 1}} {
		for _, c := range []int{0, 1, 2, 10, 1 << 32, most - 1, most} {
			l = append(l, stamp.Stamp{T: t, C: c})
		}
	}
	return append(l, never)
}

// dice are numbers below n that look like any, the same ones each time.
func dice(seed uint64) func(n int) int {
	return func(n int) int {
		seed = seed*6364136223846793005 + 1442695040888963407
		return int(seed>>33) % n
	}
}

func TestExample(t *testing.T) {
	one, e := stamp.After(at(1, 2, 3), api.Time{N: 0, D: 1})
	if e != api.OK || one != at(1, 2, 4) {
		t.Errorf("After({1/2, 3}, 0) = %v, %d", one, e)
	}
	if s, e := stamp.After(at(1, 2, 3), api.Time{N: 1, D: 2}); e != api.OK || s != at(1, 1, 0) {
		t.Errorf("After({1/2, 3}, 1/2) = %v, %d", s, e)
	}
	if s := stamp.Text(one); s != "1/2+4" {
		t.Errorf("Text = %q", s)
	}
}

// 6.1

func TestRight(t *testing.T) {
	for _, s := range rising() {
		if !stamp.Right(s) {
			t.Errorf("Right(%v) = false", s)
		}
	}
	for _, s := range wrong {
		if stamp.Right(s) {
			t.Errorf("Right(%v) = true", s)
		}
	}
}

func TestNever(t *testing.T) {
	if s := stamp.Never(); s != never || s.T != span.Never() {
		t.Errorf("Never() = %v", s)
	}
}

func TestCmpAndLess(t *testing.T) {
	l := rising()
	for i, a := range l {
		for j, b := range l {
			if c := stamp.Cmp(a, b); c != cmp.Compare(i, j) {
				t.Errorf("Cmp(%v, %v) = %d", a, b, c)
			}
			if less := stamp.Less(a, b); less != (i < j) {
				t.Errorf("Less(%v, %v) = %t", a, b, less)
			}
		}
	}
}

func TestCmpOfWrong(t *testing.T) {
	for _, a := range wrong {
		for _, b := range slices.Concat(wrong, rising()) {
			for _, p := range [][2]stamp.Stamp{{a, b}, {b, a}} {
				if c := stamp.Cmp(p[0], p[1]); c != 0 {
					t.Errorf("Cmp(%v, %v) = %d", p[0], p[1], c)
				}
				if stamp.Less(p[0], p[1]) {
					t.Errorf("Less(%v, %v) = true", p[0], p[1])
				}
			}
		}
	}
}

// 6.2

func TestNext(t *testing.T) {
	for _, s := range rising() {
		want, e := stamp.Stamp{T: s.T, C: s.C + 1}, api.OK
		switch {
		case s == never:
			want, e = stamp.Stamp{}, api.ErrArg
		case s.C == most:
			want, e = stamp.Stamp{}, api.ErrLarge
		}
		if got, f := stamp.Next(s); got != want || f != e {
			t.Errorf("Next(%v) = %v, %d, want %v, %d", s, got, f, want, e)
		}
	}
	for _, s := range wrong {
		if got, e := stamp.Next(s); got != (stamp.Stamp{}) || e != api.ErrArg {
			t.Errorf("Next(%v) = %v, %d", s, got, e)
		}
	}
}

func TestAfter(t *testing.T) {
	for _, c := range []struct {
		s    stamp.Stamp
		n, d int
		want stamp.Stamp
		e    api.Errno
	}{
		{at(0, 1, 0), 0, 1, at(0, 1, 1), api.OK},
		{at(0, 1, 0), 1, 2, at(1, 2, 0), api.OK},
		{at(0, 1, 0), 1, 0, never, api.OK},
		{at(7, 3, most), 1, 0, never, api.OK},
		{at(math.MaxInt, 1, 5), 1, 0, never, api.OK},
		{at(7, 3, 9), 0, 1, at(7, 3, 10), api.OK},
		{at(7, 3, most-1), 0, 1, at(7, 3, most), api.OK},
		{at(7, 3, most), 0, 1, stamp.Stamp{}, api.ErrLarge},
		{at(7, 3, most), 2, 3, at(3, 1, 0), api.OK},
		{at(7, 3, most), 1, math.MaxInt, stamp.Stamp{}, api.ErrLarge},
		{at(1, 6, 2), 1, 3, at(1, 2, 0), api.OK},
		{at(math.MaxInt-1, 1, 3), 1, 1, at(math.MaxInt, 1, 0), api.OK},
		{at(math.MaxInt, 1, 3), 1, 1, stamp.Stamp{}, api.ErrLarge},
		{at(math.MaxInt, 1, 3), 0, 1, at(math.MaxInt, 1, 4), api.OK},
		{at(1, math.MaxInt, 3), 1, 2, stamp.Stamp{}, api.ErrLarge},
		{at(1, math.MaxInt, 3), 0, 1, at(1, math.MaxInt, 4), api.OK},
		{never, 0, 1, stamp.Stamp{}, api.ErrArg},
		{never, 1, 1, stamp.Stamp{}, api.ErrArg},
		{never, 1, 0, stamp.Stamp{}, api.ErrArg},
		{at(1, 1, most), 0, 0, stamp.Stamp{}, api.ErrArg},
		{at(math.MaxInt, 1, most), 2, 2, stamp.Stamp{}, api.ErrArg},
	} {
		later := api.Time{N: c.n, D: c.d}
		if got, e := stamp.After(c.s, later); got != c.want || e != c.e {
			t.Errorf("After(%v, %v) = %v, %d, want %v, %d", c.s, later, got, e, c.want, c.e)
		}
	}
}

func TestAfterOfWrong(t *testing.T) {
	for _, s := range wrong {
		for _, b := range rising() {
			if got, e := stamp.After(s, b.T); got != (stamp.Stamp{}) || e != api.ErrArg {
				t.Errorf("After(%v, %v) = %v, %d", s, b.T, got, e)
			}
		}
	}
	for _, b := range wrong {
		if span.Right(b.T) {
			continue
		}
		for _, s := range append(rising(), wrong...) {
			if got, e := stamp.After(s, b.T); got != (stamp.Stamp{}) || e != api.ErrArg {
				t.Errorf("After(%v, %v) = %v, %d", s, b.T, got, e)
			}
		}
	}
}

// TestAfterIsTheSum holds sums against those of fractions of any size.
func TestAfterIsTheSum(t *testing.T) {
	for _, s := range rising() {
		for _, b := range rising() {
			if s == never || b == never || b.T.N == 0 {
				continue
			}
			sum := new(big.Rat).Add(big.NewRat(int64(s.T.N), int64(s.T.D)), big.NewRat(int64(b.T.N), int64(b.T.D)))
			var want stamp.Stamp
			f := api.ErrLarge
			if sum.Num().IsInt64() && sum.Denom().IsInt64() {
				want, f = at(int(sum.Num().Int64()), int(sum.Denom().Int64()), 0), api.OK
			}
			if got, e := stamp.After(s, b.T); got != want || e != f {
				t.Errorf("After(%v, %v) = %v, %d, want %v, %d", s, b.T, got, e, want, f)
			}
		}
	}
}

// 6.3

func TestLeast(t *testing.T) {
	for _, c := range []struct {
		l    []stamp.Stamp
		want stamp.Stamp
	}{
		{nil, never},
		{[]stamp.Stamp{never}, never},
		{[]stamp.Stamp{never, never}, never},
		{wrong, never},
		{[]stamp.Stamp{at(3, 1, 4)}, at(3, 1, 4)},
		{[]stamp.Stamp{never, at(3, 1, 4), never}, at(3, 1, 4)},
		{[]stamp.Stamp{at(3, 1, 4), at(3, 1, 3), at(3, 1, 5)}, at(3, 1, 3)},
		{[]stamp.Stamp{at(1, 2, most), at(1, 3, 9), at(2, 3, 0)}, at(1, 3, 9)},
		{[]stamp.Stamp{at(0, 1, 0), at(0, 1, -1), {}}, at(0, 1, 0)},
		{[]stamp.Stamp{at(0, 1, -1), at(1, 1, 1), {}}, at(1, 1, 1)},
		{[]stamp.Stamp{at(math.MaxInt, 1, most), at(1, 0, 1)}, at(math.MaxInt, 1, most)},
	} {
		if s := stamp.Least(slices.Values(c.l)); s != c.want {
			t.Errorf("Least of %v = %v, want %v", c.l, s, c.want)
		}
	}
	if s := stamp.Least(nil); s != never {
		t.Errorf("Least(nil) = %v", s)
	}
}

// TestLeastOfAny: wherever it stands, and whatever isn't right beside it.
func TestLeastOfAny(t *testing.T) {
	l := rising()
	for seed := range uint64(300) {
		roll := dice(seed)
		least := len(l) - 1
		var some []stamp.Stamp
		for range roll(12) {
			i := roll(len(l))
			least = min(least, i)
			some = append(some, l[i])
			if roll(2) == 0 {
				some = append(some, wrong[roll(len(wrong))])
			}
		}
		if s := stamp.Least(slices.Values(some)); s != l[least] {
			t.Errorf("Least of %v = %v, want %v", some, s, l[least])
		}
	}
}

func TestText(t *testing.T) {
	for _, c := range []struct {
		s    stamp.Stamp
		want string
	}{
		{at(0, 1, 0), "0"},
		{at(0, 1, 1), "0+1"},
		{at(3, 1, 0), "3"},
		{at(3, 1, 12), "3+12"},
		{at(1, 2, 0), "1/2"},
		{at(1, 2, 4), "1/2+4"},
		{at(7, 3, most), "7/3+1099511627776"},
		{at(math.MaxInt, 1, most), "9223372036854775807+1099511627776"},
		{at(1, math.MaxInt, 0), "1/9223372036854775807"},
		{never, "never"},
	} {
		if s := stamp.Text(c.s); s != c.want {
			t.Errorf("Text(%v) = %q, want %q", c.s, s, c.want)
		}
	}
	for _, s := range wrong {
		if text := stamp.Text(s); text != "" {
			t.Errorf("Text(%v) = %q", s, text)
		}
	}
}

// 6.4

// TestOrder: stamps stand in one order, whatever list they come in.
func TestOrder(t *testing.T) {
	want := rising()
	for seed := range uint64(50) {
		roll := dice(seed)
		l := slices.Clone(want)
		for i := range l {
			j := i + roll(len(l)-i)
			l[i], l[j] = l[j], l[i]
		}
		slices.SortFunc(l, stamp.Cmp)
		if !slices.Equal(l, want) {
			t.Fatalf("sorted: %v", l)
		}
	}
}

// TestAfterIsGreater: what is behind a stamp is greater than it, what comes later is not less than what comes sooner.
func TestAfterIsGreater(t *testing.T) {
	for _, s := range rising() {
		if next, e := stamp.Next(s); e == api.OK && !stamp.Less(s, next) {
			t.Errorf("Next(%v) = %v", s, next)
		}
		last := s
		for _, b := range rising() {
			got, e := stamp.After(s, b.T)
			if e != api.OK {
				continue
			}
			if !stamp.Right(got) || !stamp.Less(s, got) || stamp.Less(got, last) {
				t.Errorf("After(%v, %v) = %v behind %v", s, b.T, got, last)
			}
			last = got
		}
	}
}
