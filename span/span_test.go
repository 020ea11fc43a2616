package span_test

import (
	"math"
	"math/big"
	"math/rand/v2"
	"slices"
	"strings"
	"testing"

	"gavotte/api"
	"gavotte/span"
)

const (
	most  = math.MaxInt
	least = math.MinInt
)

func of(n, d int) api.Time { return api.Time{N: n, D: d} }

// wrong are times that are not right.
var wrong = []api.Time{
	{}, of(0, 2), of(0, -1), of(2, 0), of(-1, 0), of(most, 0), of(2, 4), of(6, 3), of(7, 7), of(most, most),
	of(-1, 1), of(-1, 2), of(1, -1), of(1, -2), of(-1, -1), of(-1, -2), of(least, 1), of(1, least), of(least, least), of(least, 0), of(0, least), of(least, 3),
}

// edges are right times at the ends of what an int holds.
var edges = []api.Time{
	of(0, 1), of(1, 1), of(1, 2), of(2, 1), of(most, 1), of(1, most), of(most-1, 1), of(1, most-1), of(most, most-1), of(most-1, most),
	of(most, 2), of(2, most), of(1, 1<<62), of(1<<62, 1), of(3, 1<<62), of(most, 1<<62), of(1<<62, most), of(1<<32, 1<<32-1), of(1<<32-1, 1<<32), of(1<<31, 1<<31+1),
}

// small are all right times with an N up to 9 and a D up to 9.
func small() []api.Time {
	var l []api.Time
	for n := range 10 {
		for d := 1; d < 10; d++ {
			if big.NewInt(0).GCD(nil, nil, big.NewInt(int64(n)), big.NewInt(int64(d))).Int64() == 1 {
				l = append(l, of(n, d))
			}
		}
	}
	return l
}

// number is one of any length of at most 63 bits, above 0.
func number(r *rand.Rand) int { return int(r.Uint64()>>(1+r.IntN(63)))&most | 1 }

// pairs are right times with an end, two by two: each small one with each, each edge with each, and many of all sizes, half of them with a common factor in their Ds.
func pairs() [][2]api.Time {
	var l [][2]api.Time
	for _, times := range [][]api.Time{small(), edges} {
		for _, a := range times {
			for _, b := range times {
				l = append(l, [2]api.Time{a, b})
			}
		}
	}
	r := rand.New(rand.NewPCG(1, 2))
	for i := range 20000 {
		a, b := big.NewRat(int64(number(r)), int64(number(r))), big.NewRat(int64(number(r)), int64(number(r)))
		if i%2 == 0 {
			shift := 1 + r.IntN(62)
			common := number(r) >> shift
			a = big.NewRat(int64(number(r)), int64(max(1, common)*(1+r.IntN(1<<(shift-1)))))
			b = big.NewRat(int64(number(r)), int64(max(1, common)*(1+r.IntN(1<<(shift-1)))))
		}
		l = append(l, [2]api.Time{of(int(a.Num().Int64()), int(a.Denom().Int64())), of(int(b.Num().Int64()), int(b.Denom().Int64()))})
	}
	return l
}

func rat(t api.Time) *big.Rat { return big.NewRat(int64(t.N), int64(t.D)) }

// told is the time that a fraction is, or how it is refused.
func told(x *big.Rat) (api.Time, api.Errno) {
	switch {
	case x.Sign() < 0:
		return api.Time{}, api.ErrTime
	case !x.Num().IsInt64() || !x.Denom().IsInt64():
		return api.Time{}, api.ErrLarge
	}
	return of(int(x.Num().Int64()), int(x.Denom().Int64())), api.OK
}

// 1.1

func TestRight(t *testing.T) {
	for _, x := range slices.Concat(small(), edges, []api.Time{of(1, 0)}) {
		if !span.Right(x) {
			t.Errorf("Right(%v) = false", x)
		}
	}
	for _, x := range wrong {
		if span.Right(x) {
			t.Errorf("Right(%v) = true", x)
		}
	}
}

func TestMake(t *testing.T) {
	for _, c := range []struct {
		n, d int
		want api.Time
		e    api.Errno
	}{
		{6, 4, of(3, 2), api.OK},
		{-6, -4, of(3, 2), api.OK},
		{0, 7, of(0, 1), api.OK},
		{0, -7, of(0, 1), api.OK},
		{0, least, of(0, 1), api.OK},
		{7, 7, of(1, 1), api.OK},
		{most, 1, of(most, 1), api.OK},
		{1, most, of(1, most), api.OK},
		{-most, -1, of(most, 1), api.OK},
		{least, least, of(1, 1), api.OK},
		{least, -2, of(1<<62, 1), api.OK},
		{-2, least, of(1, 1<<62), api.OK},
		{least, -6, of(1<<62, 3), api.OK},
		{0, 0, api.Time{}, api.ErrZero},
		{1, 0, api.Time{}, api.ErrZero},
		{-1, 0, api.Time{}, api.ErrZero},
		{least, 0, api.Time{}, api.ErrZero},
		{-1, 2, api.Time{}, api.ErrTime},
		{1, -2, api.Time{}, api.ErrTime},
		{least, 1, api.Time{}, api.ErrTime},
		{least, 2, api.Time{}, api.ErrTime},
		{1, least, api.Time{}, api.ErrTime},
		{most, least, api.Time{}, api.ErrTime},
		{least, -1, api.Time{}, api.ErrLarge},
		{least, -3, api.Time{}, api.ErrLarge},
		{least, -most, api.Time{}, api.ErrLarge},
		{-1, least, api.Time{}, api.ErrLarge},
		{-3, least, api.Time{}, api.ErrLarge},
		{-most, least, api.Time{}, api.ErrLarge},
	} {
		if got, e := span.Make(c.n, c.d); got != c.want || e != c.e {
			t.Errorf("Make(%d, %d) = %v, %d; want %v, %d", c.n, c.d, got, e, c.want, c.e)
		}
	}
}

func TestMakeReduces(t *testing.T) {
	for n := -30; n <= 30; n++ {
		for d := -30; d <= 30; d++ {
			want, e := api.Time{}, api.ErrZero
			if d != 0 {
				want, e = told(big.NewRat(int64(n), int64(d)))
			}
			if got, f := span.Make(n, d); got != want || f != e {
				t.Errorf("Make(%d, %d) = %v, %d; want %v, %d", n, d, got, f, want, e)
			}
		}
	}
}

func TestWhole(t *testing.T) {
	for _, n := range []int{0, 1, 2, 12, most - 1, most} {
		if got, e := span.Whole(n); got != of(n, 1) || e != api.OK {
			t.Errorf("Whole(%d) = %v, %d", n, got, e)
		}
	}
	for _, n := range []int{-1, -2, least + 1, least} {
		if got, e := span.Whole(n); got != (api.Time{}) || e != api.ErrTime {
			t.Errorf("Whole(%d) = %v, %d", n, got, e)
		}
	}
}

func TestNever(t *testing.T) {
	if span.Never() != of(1, 0) {
		t.Errorf("Never() = %v", span.Never())
	}
}

// 1.2

func TestCmp(t *testing.T) {
	for _, p := range pairs() {
		if got, want := span.Cmp(p[0], p[1]), rat(p[0]).Cmp(rat(p[1])); got != want {
			t.Errorf("Cmp(%v, %v) = %d, want %d", p[0], p[1], got, want)
		}
	}
	for _, x := range edges {
		if span.Cmp(x, span.Never()) != -1 || span.Cmp(span.Never(), x) != 1 {
			t.Errorf("Cmp of %v and the time without an end", x)
		}
	}
	if span.Cmp(span.Never(), span.Never()) != 0 {
		t.Errorf("Cmp of two times without an end")
	}
	for _, x := range wrong {
		for _, y := range slices.Concat(edges, wrong, []api.Time{span.Never()}) {
			if span.Cmp(x, y) != 0 || span.Cmp(y, x) != 0 {
				t.Errorf("Cmp of %v and %v", x, y)
			}
		}
	}
}

func TestMin(t *testing.T) {
	for _, c := range []struct {
		l    []api.Time
		want api.Time
	}{
		{nil, of(1, 0)},
		{[]api.Time{}, of(1, 0)},
		{wrong, of(1, 0)},
		{[]api.Time{of(1, 0), of(1, 0)}, of(1, 0)},
		{[]api.Time{of(5, 1)}, of(5, 1)},
		{[]api.Time{of(2, 1), of(1, 2), of(1, 3), of(1, 0)}, of(1, 3)},
		{[]api.Time{of(1, 0), of(most-1, most), of(1, 1), of(most, most-1)}, of(most-1, most)},
		{[]api.Time{of(2, 4), of(-1, 1), of(3, 4), {}, of(0, 2)}, of(3, 4)},
		{edges, of(0, 1)},
	} {
		l := slices.Clone(c.l)
		if got := span.Min(l...); got != c.want {
			t.Errorf("Min(%v) = %v, want %v", c.l, got, c.want)
		}
		if !slices.Equal(l, c.l) {
			t.Errorf("Min changed %v into %v", c.l, l)
		}
	}
}

// 1.3

func TestAdd(t *testing.T) {
	for _, p := range pairs() {
		want, e := told(new(big.Rat).Add(rat(p[0]), rat(p[1])))
		if got, f := span.Add(p[0], p[1]); got != want || f != e {
			t.Errorf("Add(%v, %v) = %v, %d; want %v, %d", p[0], p[1], got, f, want, e)
		}
	}
}

func TestSub(t *testing.T) {
	for _, p := range pairs() {
		want, e := told(new(big.Rat).Sub(rat(p[0]), rat(p[1])))
		if got, f := span.Sub(p[0], p[1]); got != want || f != e {
			t.Errorf("Sub(%v, %v) = %v, %d; want %v, %d", p[0], p[1], got, f, want, e)
		}
	}
}

// TestEdgesOfSums holds the cases against numbers written out, apart from the fractions of the library.
func TestEdgesOfSums(t *testing.T) {
	for _, c := range []struct {
		name    string
		call    func(a, b api.Time) (api.Time, api.Errno)
		a, b    api.Time
		want    api.Time
		refused api.Errno
	}{
		{"Add", span.Add, of(1, 2), of(1, 3), of(5, 6), api.OK},
		{"Add", span.Add, of(1, 6), of(5, 6), of(1, 1), api.OK},
		{"Add", span.Add, of(0, 1), of(0, 1), of(0, 1), api.OK},
		{"Add", span.Add, of(most, 2), of(most, 2), of(most, 1), api.OK},
		{"Add", span.Add, of(most-1, most), of(1, most), of(1, 1), api.OK},
		{"Add", span.Add, of(most-1, 1), of(1, 1), of(most, 1), api.OK},
		{"Add", span.Add, of(most, 1), of(1, 1), api.Time{}, api.ErrLarge},
		{"Add", span.Add, of(most, 1), of(1, 2), api.Time{}, api.ErrLarge},
		{"Add", span.Add, of(1, 1<<62), of(1, 3), api.Time{}, api.ErrLarge},
		{"Add", span.Add, of(1, most), of(1, most-1), api.Time{}, api.ErrLarge},
		{"Sub", span.Sub, of(1, 2), of(1, 3), of(1, 6), api.OK},
		{"Sub", span.Sub, of(1, 2), of(1, 2), of(0, 1), api.OK},
		{"Sub", span.Sub, of(most, 1<<62), of(most, 1<<62), of(0, 1), api.OK},
		{"Sub", span.Sub, of(1, 3), of(1, 2), api.Time{}, api.ErrTime},
		{"Sub", span.Sub, of(0, 1), of(1, most), api.Time{}, api.ErrTime},
		{"Sub", span.Sub, of(1, most-1), of(1, most), api.Time{}, api.ErrLarge},
		{"Sub", span.Sub, of(1, most), of(1, most-1), api.Time{}, api.ErrTime},
	} {
		if got, e := c.call(c.a, c.b); got != c.want || e != c.refused {
			t.Errorf("%s(%v, %v) = %v, %d; want %v, %d", c.name, c.a, c.b, got, e, c.want, c.refused)
		}
	}
}

func TestSumsWithoutAnEnd(t *testing.T) {
	never := span.Never()
	for _, x := range append(slices.Clone(edges), never) {
		if got, e := span.Add(x, never); got != never || e != api.OK {
			t.Errorf("Add(%v, never) = %v, %d", x, got, e)
		}
		if got, e := span.Add(never, x); got != never || e != api.OK {
			t.Errorf("Add(never, %v) = %v, %d", x, got, e)
		}
		if got, e := span.Sub(x, never); got != (api.Time{}) || e != api.ErrTime {
			t.Errorf("Sub(%v, never) = %v, %d", x, got, e)
		}
	}
	for _, x := range edges {
		if got, e := span.Sub(never, x); got != never || e != api.OK {
			t.Errorf("Sub(never, %v) = %v, %d", x, got, e)
		}
	}
}

func TestSumsOfWrongTimes(t *testing.T) {
	for _, x := range wrong {
		for _, y := range slices.Concat(edges, wrong, []api.Time{span.Never()}) {
			for _, call := range []func(a, b api.Time) (api.Time, api.Errno){span.Add, span.Sub} {
				if got, e := call(x, y); got != (api.Time{}) || e != api.ErrArg {
					t.Errorf("a sum of %v and %v: %v, %d", x, y, got, e)
				}
				if got, e := call(y, x); got != (api.Time{}) || e != api.ErrArg {
					t.Errorf("a sum of %v and %v: %v, %d", y, x, got, e)
				}
			}
		}
	}
}

// 1.4

func TestText(t *testing.T) {
	for s, x := range map[string]api.Time{
		"never":                 of(1, 0),
		"0":                     of(0, 1),
		"7":                     of(7, 1),
		"3/2":                   of(3, 2),
		"10/21":                 of(10, 21),
		"9223372036854775807":   of(most, 1),
		"1/9223372036854775807": of(1, most),
		"9223372036854775807/9223372036854775806": of(most, most-1),
	} {
		if got := span.Text(x); got != s {
			t.Errorf("Text(%v) = %q, want %q", x, got, s)
		}
		if got, e := span.Read(s); got != x || e != api.OK {
			t.Errorf("Read(%q) = %v, %d, want %v", s, got, e, x)
		}
	}
	for _, x := range wrong {
		if got := span.Text(x); got != "" {
			t.Errorf("Text(%v) = %q", x, got)
		}
	}
}

func TestReadWhatIsTold(t *testing.T) {
	for _, x := range slices.Concat(small(), edges, []api.Time{span.Never()}) {
		if got, e := span.Read(span.Text(x)); got != x || e != api.OK {
			t.Errorf("Read(%q) = %v, %d", span.Text(x), got, e)
		}
	}
}

func TestReadRefuses(t *testing.T) {
	for _, s := range []string{
		"", " ", "/", "1/", "/2", "//", "1//2", "1/2/3", "3/1", "0/1", "0/2", "4/2", "2/4", "7/7", "1/0", "0/0", "2/0",
		"00", "03", "03/2", "3/02", "-0", "-1", "-1/2", "1/-2", "-1/-2", "+1", "+3/2", "3/+2", " 3", "3 ", "3 /2", "3/ 2", "3/2\n",
		"Never", "NEVER", "neve", "nevers", "never ", " never", "never/1", "1/never", "inf", "1.5", "1e3", "0x10", "1_0", "1_0/3", "a", "3/a", "\x00", "\xff", "٣", "３",
		"9223372036854775808", "1/9223372036854775808", "18446744073709551617", "18446744073709551617/2", "99999999999999999999/2", strings.Repeat("1", 100000), "1/" + strings.Repeat("3", 100000),
	} {
		if got, e := span.Read(s); got != (api.Time{}) || e != api.ErrWord {
			t.Errorf("Read(%.30q) = %v, %d", s, got, e)
		}
	}
}

// 1.5

func TestOneOrder(t *testing.T) {
	l := append(slices.Clone(edges), span.Never())
	for _, a := range l {
		for _, b := range l {
			if span.Cmp(a, b) != -span.Cmp(b, a) || (span.Cmp(a, b) == 0) != (a == b) {
				t.Errorf("Cmp of %v and %v: %d, %d", a, b, span.Cmp(a, b), span.Cmp(b, a))
			}
			for _, c := range l {
				if span.Cmp(a, b) <= 0 && span.Cmp(b, c) <= 0 && span.Cmp(a, c) > 0 {
					t.Errorf("%v, %v, %v do not stand in one order", a, b, c)
				}
			}
		}
	}
}

func TestSumsHangOnNoOrder(t *testing.T) {
	for _, p := range pairs() {
		ab, e := span.Add(p[0], p[1])
		if ba, f := span.Add(p[1], p[0]); ba != ab || f != e {
			t.Errorf("Add(%v, %v) = %v, %d, the other way %v, %d", p[0], p[1], ab, e, ba, f)
		}
		if e != api.OK {
			continue
		}
		if a, e := span.Sub(ab, p[1]); a != p[0] || e != api.OK {
			t.Errorf("Sub(%v, %v) = %v, %d, want %v", ab, p[1], a, e, p[0])
		}
	}
	for _, a := range small() {
		for _, b := range small() {
			for _, c := range small() {
				ab, _ := span.Add(a, b)
				bc, _ := span.Add(b, c)
				left, e := span.Add(ab, c)
				if right, f := span.Add(a, bc); left != right || e != api.OK || f != api.OK {
					t.Fatalf("sums of %v, %v, %v: %v, %v", a, b, c, left, right)
				}
			}
		}
	}
}
