package track_test

import (
	"iter"
	"math"
	"runtime"
	"slices"
	"testing"
	"weak"

	"gavotte/api"
	"gavotte/stamp"
	"gavotte/track"
)

// most is the greatest number of a stamp.
const most = 1 << 40

// at is the stamp of n through d with a number.
func at(n, d, c int) stamp.Stamp { return stamp.Stamp{T: api.Time{N: n, D: d}, C: c} }

// never is the stamp without an end, as the document writes it.
var never = at(1, 0, 0)

// wrong are stamps that aren't right.
var wrong = []stamp.Stamp{
	{}, at(0, 0, 1), at(0, 2, 0), at(2, 4, 0), at(2, 4, 1), at(2, 0, 0), at(-1, 1, 0), at(1, -1, 0), at(-1, 0, 0), at(math.MinInt, 1, 0), at(1, math.MinInt, 0), at(math.MaxInt, math.MaxInt, 0),
	at(0, 1, -1), at(1, 1, -1), at(1, 2, math.MinInt), at(0, 1, most+1), at(3, 1, most+1), at(3, 1, math.MaxInt),
	at(1, 0, 1), at(1, 0, -1), at(1, 0, most), at(1, 0, math.MinInt),
}

// rising are stamps that are right, each greater than those ahead of it, none never.
func rising() []stamp.Stamp {
	var l []stamp.Stamp
	for _, t := range []api.Time{{N: 0, D: 1}, {N: 1, D: math.MaxInt}, {N: 1, D: 3}, {N: 1, D: 2}, {N: 2, D: 3}, {N: 1, D: 1}, {N: 3, D: 2}, {N: 7, D: 1}, {N: math.MaxInt, D: 1}} {
		for _, c := range []int{0, 1, 2, most - 1, most} {
			l = append(l, stamp.Stamp{T: t, C: c})
		}
	}
	return l
}

// put is an entry as a track should have it.
type put struct {
	s stamp.Stamp
	x int
}

// with is a track of a room into which entries were put one by one.
func with(t *testing.T, room int, l ...put) *track.Track[int] {
	t.Helper()
	k, e := track.New[int](room)
	if e != api.OK || k == nil {
		t.Fatalf("New(%d) = %v, %d", room, k, e)
	}
	for _, p := range l {
		puts(t, k, p.s, p.x)
	}
	return k
}

// puts puts one entry, which must be taken.
func puts[T any](t *testing.T, k *track.Track[T], s stamp.Stamp, x T) {
	t.Helper()
	if e := k.Put(s, x); e != api.OK {
		t.Fatalf("Put(%v, %v) = %d behind %d entries", s, x, e, k.Len())
	}
}

// every are the entries of stamps, whose things are 1, 2, and so on.
func every(l []stamp.Stamp) []put {
	var all []put
	for i, s := range l {
		all = append(all, put{s, i + 1})
	}
	return all
}

// list are the entries that are gone over.
func list(seq iter.Seq2[stamp.Stamp, int]) []put {
	var l []put
	for s, x := range seq {
		l = append(l, put{s, x})
	}
	return l
}

// xs are the things of entries.
func xs(l []put) []int {
	var all []int
	for _, p := range l {
		all = append(all, p.x)
	}
	return all
}

// turned is a list the other way round.
func turned(l []int) []int {
	l = slices.Clone(l)
	slices.Reverse(l)
	return l
}

// below is how many entries are less than a stamp, by going through them all.
func below(l []put, s stamp.Stamp) int {
	n := 0
	for _, p := range l {
		if stamp.Less(p.s, s) {
			n++
		}
	}
	return n
}

// upTo is how many entries are not greater than a stamp, by going through them all.
func upTo(l []put, s stamp.Stamp) int {
	n := 0
	for _, p := range l {
		if p.s == s || stamp.Less(p.s, s) {
			n++
		}
	}
	return n
}

// holds holds a track against the entries that are to be in it.
func holds(t *testing.T, what string, k *track.Track[int], want []put) {
	t.Helper()
	got := list(k.All())
	if !slices.Equal(got, want) {
		t.Errorf("%s: All = %v, want %v", what, got, want)
	}
	for i := 1; i < len(got); i++ {
		if !stamp.Less(got[i-1].s, got[i].s) {
			t.Errorf("%s: stamps don't rise: %v", what, got)
		}
	}
	if k.Len() != len(want) {
		t.Errorf("%s: Len() = %d, want %d", what, k.Len(), len(want))
	}
}

// asked holds what a track tells of a stamp against the entries that are to be in it.
func asked(t *testing.T, k *track.Track[int], s stamp.Stamp, want []put) {
	t.Helper()
	if got := list(k.From(s)); !slices.Equal(got, want[below(want, s):]) {
		t.Errorf("From(%v) of %v: %v", s, want, got)
	}
	var last put
	n := upTo(want, s)
	if n > 0 {
		last = want[n-1]
	}
	if at, x, ok := k.At(s); ok != (n > 0) || at != last.s || x != last.x {
		t.Errorf("At(%v) of %v = %v, %d, %t", s, want, at, x, ok)
	}
}

// dice are numbers below n that look like any, the same ones each time.
func dice(seed uint64) func(n int) int {
	return func(n int) int {
		seed = seed*6364136223846793005 + 1442695040888963407
		return int(seed>>33) % n
	}
}

func TestExample(t *testing.T) {
	k := with(t, 3, put{at(1, 1, 0), 10}, put{at(2, 1, 0), 20}, put{at(3, 1, 0), 30})
	if s, x, ok := k.At(at(2, 1, 1)); !ok || s != at(2, 1, 0) || x != 20 {
		t.Errorf("At(2+1) = %v, %d, %t", s, x, ok)
	}
	if l := k.Back(at(2, 1, 0)); !slices.Equal(l, []int{30}) {
		t.Errorf("Back(2) = %v", l)
	}
	if l := k.Free(at(2, 1, 0)); !slices.Equal(l, []int{10}) {
		t.Errorf("Free(2) = %v", l)
	}
	holds(t, "behind it", k, []put{{at(2, 1, 0), 20}})
}

// 7.1

func TestNew(t *testing.T) {
	for _, room := range []int{1, 2, 3, 1<<20 - 1, 1 << 20} {
		holds(t, "New", with(t, room), nil)
	}
	for _, room := range []int{0, -1, 1<<20 + 1, 1 << 21, math.MinInt, math.MaxInt, 1 << 32, 1<<32 + 1} {
		if k, e := track.New[int](room); k != nil || e != api.ErrArg {
			t.Errorf("New(%d) = %v, %d", room, k, e)
		}
	}
	one, two := with(t, 2), with(t, 2)
	puts(t, one, at(1, 1, 0), 1)
	holds(t, "another track", two, nil)
}

func TestPut(t *testing.T) {
	all := every(rising())
	k := with(t, len(all)+1)
	for i, p := range all {
		puts(t, k, p.s, p.x)
		holds(t, "Put", k, all[:i+1])
	}
	for _, p := range all {
		if e := k.Put(p.s, 0); e != api.ErrState {
			t.Errorf("Put(%v) behind greater ones = %d", p.s, e)
		}
	}
	holds(t, "behind Puts that were refused", k, all)
}

// TestPutInNoOrder: what isn't greater than the last entry is refused, wherever it would stand.
func TestPutInNoOrder(t *testing.T) {
	l := rising()
	for i, last := range l {
		for j, s := range l {
			want := api.ErrState
			if j > i {
				want = api.OK
			}
			k := with(t, 3, put{last, 1})
			if e := k.Put(s, 2); e != want {
				t.Errorf("Put(%v) behind %v = %d", s, last, e)
			}
			if want == api.OK {
				holds(t, "in order", k, []put{{last, 1}, {s, 2}})
			} else {
				holds(t, "in no order", k, []put{{last, 1}})
			}
		}
	}
}

// TestPutErrors: ErrArg is ahead of ErrState, and that ahead of ErrFull.
func TestPutErrors(t *testing.T) {
	for _, room := range []int{1, 2} {
		k := with(t, room, put{at(1, 2, 1), 7})
		for _, s := range append(slices.Clone(wrong), never) {
			if e := k.Put(s, 0); e != api.ErrArg {
				t.Errorf("room %d: Put(%v) = %d", room, s, e)
			}
		}
		for _, s := range []stamp.Stamp{at(0, 1, 0), at(0, 1, most), at(1, 3, 9), at(1, 2, 0), at(1, 2, 1)} {
			if e := k.Put(s, 0); e != api.ErrState {
				t.Errorf("room %d: Put(%v) = %d", room, s, e)
			}
		}
		holds(t, "behind Puts that were refused", k, []put{{at(1, 2, 1), 7}})
	}
	for _, s := range append(slices.Clone(wrong), never) {
		if e := with(t, 1).Put(s, 0); e != api.ErrArg {
			t.Errorf("Put(%v) on none = %d", s, e)
		}
	}
	k := with(t, 1, put{at(1, 2, 1), 7})
	for _, s := range []stamp.Stamp{at(1, 2, 2), at(2, 3, 0), at(math.MaxInt, 1, most)} {
		if e := k.Put(s, 0); e != api.ErrFull {
			t.Errorf("Put(%v) on a full track = %d", s, e)
		}
	}
	holds(t, "a full track", k, []put{{at(1, 2, 1), 7}})
}

// TestRoom fills tracks up to their room, and again when some entries went.
func TestRoom(t *testing.T) {
	for room := 1; room < 70; room++ {
		k := with(t, room)
		var want []put
		next := 0
		fill := func() {
			t.Helper()
			for len(want) < room {
				puts(t, k, at(next, 1, 0), next)
				want = append(want, put{at(next, 1, 0), next})
				next++
			}
			if e := k.Put(at(next, 1, 0), 0); e != api.ErrFull {
				t.Fatalf("room %d: Put = %d", room, e)
			}
			holds(t, "a full track", k, want)
		}
		fill()
		k.Free(want[0].s)
		fill()
		if room > 1 {
			k.Free(want[1].s)
			want = want[1:]
			fill()
			k.Back(want[room-2].s)
			want = want[:room-1]
			fill()
		}
		k.Free(never)
		want = nil
		fill()
	}
}

func TestGreatestRoom(t *testing.T) {
	const room = 1 << 20
	k := with(t, room)
	for i := range room {
		puts(t, k, at(i, 1, 0), i)
	}
	if e := k.Put(at(room, 1, 0), 0); e != api.ErrFull || k.Len() != room {
		t.Fatalf("Put = %d, %d there", e, k.Len())
	}
	if s, x, ok := k.At(at(room, 1, 0)); !ok || s != at(room-1, 1, 0) || x != room-1 {
		t.Errorf("At = %v, %d, %t", s, x, ok)
	}
	if l := k.Free(at(2, 1, 0)); !slices.Equal(l, []int{0, 1}) {
		t.Errorf("Free(2) = %v", l)
	}
	if l := k.Back(at(room-3, 1, 0)); !slices.Equal(l, []int{room - 1, room - 2}) {
		t.Errorf("Back = %v", l)
	}
	if k.Len() != room-4 {
		t.Errorf("%d there", k.Len())
	}
}

// TestRoomTakesNoMemory: a great room of great things is no matter as long as few are in it.
func TestRoomTakesNoMemory(t *testing.T) {
	type great [1 << 20]byte
	k, _ := track.New[great](1 << 20)
	for i := range 30 {
		puts(t, k, at(i, 1, 0), great{byte(i)})
		k.Free(at(i, 1, 0))
	}
	if s, x, ok := k.At(never); !ok || s != at(29, 1, 0) || x[0] != 29 || k.Len() != 1 {
		t.Errorf("At(never) = %v, %d, %t", s, x[0], ok)
	}
}

func TestAtAndSet(t *testing.T) {
	l := rising()
	for step := 1; step < 8; step++ {
		var some []stamp.Stamp
		for i := step - 1; i < len(l); i += step {
			some = append(some, l[i])
		}
		want := every(some)
		k := with(t, 100, want...)
		for i, s := range append(slices.Clone(l), never) {
			asked(t, k, s, want)
			n := below(want, s)
			there := n < len(want) && want[n].s == s
			if ok := k.Set(s, -i-1); ok != there {
				t.Errorf("Set(%v) of %v = %t", s, want, ok)
			}
			if there {
				want[n].x = -i - 1
			}
			asked(t, k, s, want)
			holds(t, "behind Set", k, want)
		}
	}
}

// TestAtBetween: a stamp that no entry has stands for the one ahead of it.
func TestAtBetween(t *testing.T) {
	k := with(t, 9, put{at(1, 2, 3), 1}, put{at(1, 2, 5), 2}, put{at(1, 1, 0), 3})
	for _, c := range []struct {
		s    stamp.Stamp
		want put
	}{
		{at(0, 1, 0), put{}}, {at(1, 3, most), put{}}, {at(1, 2, 2), put{}},
		{at(1, 2, 3), put{at(1, 2, 3), 1}}, {at(1, 2, 4), put{at(1, 2, 3), 1}},
		{at(1, 2, 5), put{at(1, 2, 5), 2}}, {at(1, 2, most), put{at(1, 2, 5), 2}}, {at(2, 3, 0), put{at(1, 2, 5), 2}},
		{at(1, 1, 0), put{at(1, 1, 0), 3}}, {at(1, 1, 1), put{at(1, 1, 0), 3}}, {at(math.MaxInt, 1, most), put{at(1, 1, 0), 3}}, {never, put{at(1, 1, 0), 3}},
	} {
		if s, x, ok := k.At(c.s); s != c.want.s || x != c.want.x || ok != (c.want.x > 0) {
			t.Errorf("At(%v) = %v, %d, %t, want %v", c.s, s, x, ok, c.want)
		}
	}
}

// TestZeroThing: a thing that is zero is one, by its stamp and its true.
func TestZeroThing(t *testing.T) {
	k := with(t, 2, put{at(0, 1, 0), 0})
	if s, x, ok := k.At(at(0, 1, 0)); !ok || x != 0 || s != at(0, 1, 0) {
		t.Errorf("At(0) = %v, %d, %t", s, x, ok)
	}
	puts(t, k, at(0, 1, 1), 5)
	if !k.Set(at(0, 1, 1), 0) {
		t.Errorf("Set(0+1, 0) = false")
	}
	holds(t, "zero ones", k, []put{{at(0, 1, 0), 0}, {at(0, 1, 1), 0}})
	if l := k.Back(at(0, 1, 0)); !slices.Equal(l, []int{0}) {
		t.Errorf("Back(0) = %v", l)
	}
}

// TestWrongStamps: of one that isn't right nothing is told, and nothing goes.
func TestWrongStamps(t *testing.T) {
	for _, all := range [][]put{nil, every(rising()[:1]), every(rising())} {
		k := with(t, 100, all...)
		for _, s := range wrong {
			if at, x, ok := k.At(s); ok || at != (stamp.Stamp{}) || x != 0 {
				t.Errorf("At(%v) = %v, %d, %t", s, at, x, ok)
			}
			if k.Set(s, -1) {
				t.Errorf("Set(%v) = true", s)
			}
			if l := k.Back(s); len(l) > 0 {
				t.Errorf("Back(%v) = %v", s, l)
			}
			if l := k.Free(s); len(l) > 0 {
				t.Errorf("Free(%v) = %v", s, l)
			}
			if k.From(s) == nil {
				t.Fatalf("From(%v) = nil", s)
			}
			if l := list(k.From(s)); len(l) > 0 {
				t.Errorf("From(%v): %v", s, l)
			}
		}
		holds(t, "asked by wrong stamps", k, all)
	}
}

// TestAnyThing: things of kinds that can't be held against each other, and ones of no size.
func TestAnyThing(t *testing.T) {
	l, _ := track.New[[]int](2)
	puts(t, l, at(0, 1, 0), []int{1})
	puts(t, l, at(1, 1, 0), nil)
	if _, x, ok := l.At(at(1, 2, 0)); !ok || !slices.Equal(x, []int{1}) {
		t.Errorf("At(1/2) = %v, %t", x, ok)
	}
	if _, x, ok := l.At(at(1, 1, 0)); !ok || x != nil {
		t.Errorf("At(1) = %v, %t", x, ok)
	}
	f, _ := track.New[func() int](1)
	puts(t, f, at(0, 1, 0), func() int { return 3 })
	if gone := f.Free(never); len(gone) != 1 || gone[0]() != 3 {
		t.Errorf("Free(never): %d", len(gone))
	}
	if _, x, ok := f.At(never); ok || x != nil {
		t.Errorf("At of none: %t", ok)
	}
	none, _ := track.New[struct{}](3)
	for i := range 3 {
		puts(t, none, at(i, 1, 0), struct{}{})
	}
	if none.Len() != 3 || len(none.Back(at(0, 1, 0))) != 2 || len(none.Free(at(1, 1, 0))) != 1 {
		t.Errorf("things of no size: %d left", none.Len())
	}
}

// 7.2

// TestBackAndFree at each stamp, ahead of all entries, at one, between two, and behind all.
func TestBackAndFree(t *testing.T) {
	l := rising()
	for step := 1; step < 8; step++ {
		var some []stamp.Stamp
		for i := step - 1; i < len(l); i += step {
			some = append(some, l[i])
		}
		all := every(some)
		for _, s := range append(slices.Clone(l), never) {
			k, n := with(t, 100, all...), upTo(all, s)
			if got := k.Back(s); !slices.Equal(got, turned(xs(all[n:]))) {
				t.Errorf("Back(%v) of %v = %v", s, all, got)
			}
			holds(t, "behind Back", k, all[:n])
			if got := k.Back(s); len(got) > 0 {
				t.Errorf("Back(%v) once more = %v", s, got)
			}
			k, n = with(t, 100, all...), below(all, s)
			if got := k.Free(s); !slices.Equal(got, xs(all[:n])) {
				t.Errorf("Free(%v) of %v = %v", s, all, got)
			}
			holds(t, "behind Free", k, all[n:])
			if got := k.Free(s); len(got) > 0 {
				t.Errorf("Free(%v) once more = %v", s, got)
			}
			holds(t, "behind Free once more", k, all[n:])
		}
	}
}

func TestBackAndFreeOfNever(t *testing.T) {
	all := every(rising())
	k := with(t, 100, all...)
	if got := k.Back(never); len(got) > 0 {
		t.Errorf("Back(never) = %v", got)
	}
	holds(t, "behind Back(never)", k, all)
	if got := k.Free(at(0, 1, 0)); len(got) > 0 {
		t.Errorf("Free(0) = %v", got)
	}
	if got := k.Free(never); !slices.Equal(got, xs(all)) {
		t.Errorf("Free(never) = %v", got)
	}
	holds(t, "behind Free(never)", k, nil)
	if got := k.Free(never); len(got) > 0 {
		t.Errorf("Free(never) of none = %v", got)
	}
	if got := k.Back(at(0, 1, 0)); len(got) > 0 {
		t.Errorf("Back(0) of none = %v", got)
	}
}

// TestAnswersAreNew: what is written into an answer, or behind it, is seen by nothing else.
func TestAnswersAreNew(t *testing.T) {
	all := every(rising())
	k := with(t, 100, all...)
	spoil := func(l []int) {
		for i := range l {
			l[i] = -1
		}
		l = l[:cap(l)]
		for i := range l {
			l[i] = -2
		}
	}
	back := k.Back(all[30].s)
	free := k.Free(all[10].s)
	was, had := slices.Clone(back), slices.Clone(free)
	again := k.Back(all[20].s)
	spoil(again)
	spoil(k.Free(all[12].s))
	holds(t, "behind spoilt answers", k, all[12:21])
	if !slices.Equal(back, was) || !slices.Equal(free, had) {
		t.Errorf("answers of old: %v, %v", back, free)
	}
	spoil(back)
	spoil(free)
	for _, p := range all[21:] {
		puts(t, k, p.s, p.x)
	}
	holds(t, "behind spoilt answers of old", k, all[12:])
}

// TestLetsGo: what is gone is not kept.
func TestLetsGo(t *testing.T) {
	type thing struct{ l [64]*int }
	k, _ := track.New[*thing](8)
	var seen []weak.Pointer[thing]
	for i := range 8 {
		x := new(thing)
		seen = append(seen, weak.Make(x))
		puts(t, k, at(i, 1, 0), x)
	}
	k.Free(at(2, 1, 0))
	k.Back(at(5, 1, 0))
	k.Set(at(3, 1, 0), nil)
	runtime.GC()
	for i, x := range seen {
		if kept := x.Value() != nil; kept != (i == 2 || i == 4 || i == 5) {
			t.Errorf("thing %d is kept: %t", i, kept)
		}
	}
	runtime.KeepAlive(k)
}

// 7.3

// TestAllAndFrom, gone over as far as somebody asks, and more than once.
func TestAllAndFrom(t *testing.T) {
	all := every(rising())
	k := with(t, 100, all...)
	for from, p := range all {
		for _, seq := range []iter.Seq2[stamp.Stamp, int]{k.All(), k.From(p.s)} {
			want := list(seq)
			for n := range want {
				var got []put
				for s, x := range seq {
					got = append(got, put{s, x})
					if len(got) > n {
						break
					}
				}
				if !slices.Equal(got, want[:n+1]) {
					t.Errorf("the first %d: %v", n+1, got)
				}
			}
		}
		if got := list(k.From(p.s)); !slices.Equal(got, all[from:]) {
			t.Errorf("From(%v): %v", p.s, got)
		}
	}
	if got := list(k.From(never)); len(got) > 0 {
		t.Errorf("From(never): %v", got)
	}
	holds(t, "gone over often", k, all)
}

func TestAllIsAsWhenGoneOver(t *testing.T) {
	k := with(t, 3, put{at(1, 1, 0), 1})
	all, from := k.All(), k.From(at(2, 1, 0))
	for _, c := range []struct {
		what string
		do   func()
		want []put
	}{
		{"at first", func() {}, []put{{at(1, 1, 0), 1}}},
		{"behind two Puts", func() { k.Put(at(2, 1, 0), 2); k.Put(at(3, 1, 0), 3) }, []put{{at(1, 1, 0), 1}, {at(2, 1, 0), 2}, {at(3, 1, 0), 3}}},
		{"behind a Put that was refused", func() { k.Put(at(4, 1, 0), 4) }, []put{{at(1, 1, 0), 1}, {at(2, 1, 0), 2}, {at(3, 1, 0), 3}}},
		{"behind a Set", func() { k.Set(at(3, 1, 0), 33) }, []put{{at(1, 1, 0), 1}, {at(2, 1, 0), 2}, {at(3, 1, 0), 33}}},
		{"behind a Back", func() { k.Back(at(2, 1, 1)) }, []put{{at(1, 1, 0), 1}, {at(2, 1, 0), 2}}},
		{"behind another Put", func() { k.Put(at(5, 2, 0), 4) }, []put{{at(1, 1, 0), 1}, {at(2, 1, 0), 2}, {at(5, 2, 0), 4}}},
		{"behind a Free", func() { k.Free(at(9, 4, 0)) }, []put{{at(5, 2, 0), 4}}},
		{"behind a Free of all", func() { k.Free(never) }, nil},
		{"behind a Put of what was", func() { k.Put(at(1, 1, 0), 5) }, []put{{at(1, 1, 0), 5}}},
	} {
		c.do()
		if got := list(all); !slices.Equal(got, c.want) {
			t.Errorf("All %s: %v, want %v", c.what, got, c.want)
		}
		if got := list(from); !slices.Equal(got, c.want[below(c.want, at(2, 1, 0)):]) {
			t.Errorf("From(2) %s: %v, want of %v", c.what, got, c.want)
		}
	}
}

// TestAllWhileTheTrackChanges: what is handed out stands as it was when the going over began, and it ends.
func TestAllWhileTheTrackChanges(t *testing.T) {
	for _, change := range []func(k *track.Track[int], s stamp.Stamp){
		func(k *track.Track[int], s stamp.Stamp) { k.Back(at(0, 1, 0)) },
		func(k *track.Track[int], s stamp.Stamp) { k.Free(never) },
		func(k *track.Track[int], s stamp.Stamp) { k.Free(never); k.Put(at(0, 1, 0), -1) },
		func(k *track.Track[int], s stamp.Stamp) { k.Back(s); k.Put(at(90, 1, 0), -1) },
		func(k *track.Track[int], s stamp.Stamp) { k.Put(at(k.Len()+50, 1, 0), -1) },
		func(k *track.Track[int], s stamp.Stamp) { k.Set(at(4, 1, 0), -1); k.Set(s, -1) },
		func(k *track.Track[int], s stamp.Stamp) { list(k.All()); k.Free(s) },
	} {
		all := []put{{at(1, 1, 0), 1}, {at(2, 1, 0), 2}, {at(3, 1, 0), 3}, {at(4, 1, 0), 4}}
		for from := range all {
			k := with(t, 100, all...)
			seq := k.From(all[from].s)
			if from == 0 {
				seq = k.All()
			}
			var got []put
			for s, x := range seq {
				got = append(got, put{s, x})
				change(k, s)
			}
			if !slices.Equal(got, all[from:]) {
				t.Errorf("from %d on while the track changes: %v", from, got)
			}
		}
	}
}

func TestNilTrack(t *testing.T) {
	var k *track.Track[string]
	for _, s := range slices.Concat(wrong, rising(), []stamp.Stamp{never}) {
		if e := k.Put(s, "a"); e != api.ErrArg {
			t.Errorf("Put(%v) = %d", s, e)
		}
		if k.Set(s, "a") {
			t.Errorf("Set(%v) = true", s)
		}
		if at, x, ok := k.At(s); ok || at != (stamp.Stamp{}) || x != "" {
			t.Errorf("At(%v) = %v, %q, %t", s, at, x, ok)
		}
		if l := k.Back(s); len(l) > 0 {
			t.Errorf("Back(%v) = %v", s, l)
		}
		if l := k.Free(s); len(l) > 0 {
			t.Errorf("Free(%v) = %v", s, l)
		}
		if k.Len() != 0 || k.All() == nil || k.From(s) == nil {
			t.Fatalf("Len() = %d, or nothing to go over", k.Len())
		}
		for at, x := range k.All() {
			t.Errorf("All handed out %v, %q", at, x)
		}
		for at, x := range k.From(s) {
			t.Errorf("From(%v) handed out %v, %q", s, at, x)
		}
	}
	if none := with(t, 1); none.All() == nil || none.From(never) == nil {
		t.Errorf("nothing to go over, of none")
	}
}

// 7.4

// TestPutAnew: what was gone back on can be put anew, at the stamps that went, and at others.
func TestPutAnew(t *testing.T) {
	l := rising()
	all := every(l)
	for back := range all {
		k := with(t, len(all), all...)
		if e := k.Put(never, 0); e != api.ErrArg {
			t.Fatalf("Put(never) = %d", e)
		}
		k.Back(all[back].s)
		if e := k.Put(all[back].s, 0); e != api.ErrState {
			t.Errorf("Put(%v) of what is there still = %d", all[back].s, e)
		}
		want := slices.Clone(all[:back+1])
		for _, s := range l[back+1:] {
			puts(t, k, s, -1)
			want = append(want, put{s, -1})
		}
		holds(t, "put anew", k, want)
		k.Free(never)
		puts(t, k, l[0], 9)
		holds(t, "put anew when all was let go of", k, []put{{l[0], 9}})
	}
}

// TestAgainstList goes through many calls, each held against a list that is kept beside it.
func TestAgainstList(t *testing.T) {
	l := rising()
	for seed := range uint64(300) {
		roll := dice(seed)
		room, puts := 1+roll(20), 1+roll(6)
		k := with(t, room)
		var want []put
		for next := 1; next < 200; next++ {
			s := l[roll(len(l))]
			switch x := roll(puts + 3); {
			case x < puts:
				e := api.OK
				if below(want, s) < len(want) {
					e = api.ErrState
				} else if len(want) == room {
					e = api.ErrFull
				}
				if got := k.Put(s, next); got != e {
					t.Fatalf("Put(%v) = %d, want %d, behind %v of %d", s, got, e, want, room)
				} else if e == api.OK {
					want = append(want, put{s, next})
				}
			case x == puts:
				n := upTo(want, s)
				if got := k.Back(s); !slices.Equal(got, turned(xs(want[n:]))) {
					t.Fatalf("Back(%v) of %v = %v", s, want, got)
				}
				want = slices.Clone(want[:n])
			case x == puts+1 && roll(2) == 0:
				n := below(want, s)
				if got := k.Free(s); !slices.Equal(got, xs(want[:n])) {
					t.Fatalf("Free(%v) of %v = %v", s, want, got)
				}
				want = slices.Clone(want[n:])
			default:
				at := slices.IndexFunc(want, func(p put) bool { return p.s == s })
				if k.Set(s, next) != (at >= 0) {
					t.Fatalf("Set(%v) of %v", s, want)
				} else if at >= 0 {
					want[at].x = next
				}
			}
			holds(t, "behind many calls", k, want)
			asked(t, k, l[roll(len(l))], want)
		}
	}
}

// TestPutAndFreeTakeFewMoves: none goes through all that there is.
func TestPutAndFreeTakeFewMoves(t *testing.T) {
	const n, more = 1 << 18, 1 << 18
	k := with(t, n+1)
	for i := range n {
		puts(t, k, at(i, 1, 0), i)
	}
	for i := range more {
		puts(t, k, at(n+i, 1, 0), n+i)
		if l := k.Free(at(i+1, 1, 0)); len(l) != 1 || l[0] != i {
			t.Fatalf("Free(%d) = %v", i+1, l)
		}
		if s, x, ok := k.At(at(i+1, 1, 7)); !ok || s != at(i+1, 1, 0) || x != i+1 {
			t.Fatalf("At(%d+7) = %v, %d, %t", i+1, s, x, ok)
		}
		if l := k.Back(at(n+i-1, 1, 0)); len(l) != 1 || l[0] != n+i {
			t.Fatalf("Back(%d) = %v", n+i-1, l)
		}
		puts(t, k, at(n+i, 1, 0), n+i)
	}
}
