package queue_test

import (
	"math"
	"runtime"
	"slices"
	"testing"
	"weak"

	"gavotte/api"
	"gavotte/queue"
)

// with is a queue of a room into which items were pushed one by one.
func with[T any](t *testing.T, room int, l ...T) *queue.Queue[T] {
	t.Helper()
	q, e := queue.New[T](room)
	if e != api.OK || q == nil {
		t.Fatalf("New(%d) = %v, %d", room, q, e)
	}
	push(t, q, l...)
	return q
}

// push pushes items, for each of which there is room.
func push[T any](t *testing.T, q *queue.Queue[T], l ...T) {
	t.Helper()
	for _, x := range l {
		if e := q.Push(x); e != api.OK {
			t.Fatalf("Push(%v) = %d behind %d items", x, e, q.Len())
		}
	}
}

// all are the items of a queue, whose places are to be 0, 1, and so on.
func all[T any](t *testing.T, what string, q *queue.Queue[T]) []T {
	t.Helper()
	var l []T
	for i, x := range q.All() {
		if i != len(l) {
			t.Errorf("%s: place %d behind %d items", what, i, len(l))
		}
		l = append(l, x)
	}
	return l
}

// holds holds a queue against the items that are to be in it, and leaves it as it is.
func holds[T comparable](t *testing.T, what string, q *queue.Queue[T], want ...T) {
	t.Helper()
	if got := all(t, what, q); !slices.Equal(got, want) {
		t.Errorf("%s: All = %v, want %v", what, got, want)
	}
	if q.Len() != len(want) {
		t.Errorf("%s: Len() = %d, want %d", what, q.Len(), len(want))
	}
	var first T
	if len(want) > 0 {
		first = want[0]
	}
	for range 2 {
		if x, ok := q.Peek(); ok != (len(want) > 0) || x != first {
			t.Errorf("%s: Peek() = %v, %t", what, x, ok)
		}
	}
}

// pops pops the items that are to be in a queue, behind which nothing is in it.
func pops[T comparable](t *testing.T, what string, q *queue.Queue[T], want ...T) {
	t.Helper()
	for i, x := range want {
		if got, ok := q.Pop(); !ok || got != x || q.Len() != len(want)-i-1 {
			t.Errorf("%s: Pop() = %v, %t, want %v, %d left", what, got, ok, x, q.Len())
		}
	}
	var none T
	for range 2 {
		if x, ok := q.Pop(); ok || x != none {
			t.Errorf("%s: Pop of none = %v, %t", what, x, ok)
		}
	}
	holds(t, what+", popped", q)
}

// count are the numbers from one on, up to another one, which isn't among them.
func count(from, to int) []int {
	var l []int
	for i := from; i < to; i++ {
		l = append(l, i)
	}
	return l
}

// dice are numbers below n that look like any, the same ones each time.
func dice(seed uint64) func(n int) int {
	return func(n int) int {
		seed = seed*6364136223846793005 + 1442695040888963407
		return int(seed>>33) % n
	}
}

func TestExample(t *testing.T) {
	q := with(t, 2, "a", "b")
	if e := q.Push("c"); e != api.ErrFull {
		t.Errorf("Push(c) = %d", e)
	}
	if x, ok := q.Pop(); !ok || x != "a" {
		t.Errorf("Pop() = %q, %t", x, ok)
	}
	if e := q.Push("c"); e != api.OK {
		t.Errorf("Push(c) = %d", e)
	}
	holds(t, "behind it", q, "b", "c")
}

// 5.1

func TestNew(t *testing.T) {
	for _, room := range []int{1, 2, 3, 1<<20 - 1, 1 << 20} {
		holds(t, "New", with[int](t, room))
		pops(t, "New", with[int](t, room))
	}
	for _, room := range []int{0, -1, 1<<20 + 1, 1 << 21, math.MinInt, math.MaxInt, 1 << 32, 1<<32 + 1} {
		if q, e := queue.New[int](room); q != nil || e != api.ErrArg {
			t.Errorf("New(%d) = %v, %d", room, q, e)
		}
	}
	one, two := with[int](t, 2), with[int](t, 2)
	push(t, one, 1)
	holds(t, "another queue", two)
}

// TestRoom fills queues up to their room, and not beyond it.
func TestRoom(t *testing.T) {
	rooms := count(1, 70)
	for _, room := range append(rooms, 1<<10-1, 1<<10, 1<<10+1) {
		q := with(t, room, count(0, room)...)
		for range 2 {
			if e := q.Push(-1); e != api.ErrFull {
				t.Errorf("room %d: Push = %d", room, e)
			}
		}
		holds(t, "a full queue", q, count(0, room)...)
		if x, ok := q.Pop(); !ok || x != 0 {
			t.Errorf("room %d: Pop() = %d, %t", room, x, ok)
		}
		push(t, q, room)
		if e := q.Push(-1); e != api.ErrFull {
			t.Errorf("room %d: Push behind a Pop = %d", room, e)
		}
		holds(t, "full again", q, count(1, room+1)...)
		pops(t, "full again", q, count(1, room+1)...)
	}
}

func TestGreatestRoom(t *testing.T) {
	const room = 1 << 20
	q := with[int](t, room)
	for i := range room {
		push(t, q, i)
	}
	for i := range 1000 {
		if e := q.Push(-1); e != api.ErrFull || q.Len() != room {
			t.Fatalf("Push = %d, %d there", e, q.Len())
		}
		if x, ok := q.Pop(); !ok || x != i {
			t.Fatalf("Pop() = %d, %t, want %d", x, ok, i)
		}
		push(t, q, room+i)
	}
	for i := range room {
		if x, ok := q.Pop(); !ok || x != 1000+i {
			t.Fatalf("Pop() = %d, %t, want %d", x, ok, 1000+i)
		}
	}
	holds(t, "popped", q)
}

// TestRoomTakesNoMemory: a great room of great things is no matter as long as few are in it.
func TestRoomTakesNoMemory(t *testing.T) {
	type great [1 << 20]byte
	q := with(t, 1<<20, new(great), nil)
	r := with(t, 1<<20, great{1}, great{2})
	for range 20 {
		if x, ok := r.Pop(); !ok {
			t.Fatalf("Pop() = %d, %t", x[0], ok)
		}
		push(t, r, great{3})
	}
	if q.Len() != 2 || r.Len() != 2 || r.Copy().Len() != 2 {
		t.Errorf("%d and %d there", q.Len(), r.Len())
	}
}

func TestPushAndPop(t *testing.T) {
	q := with[int](t, 3)
	holds(t, "none", q)
	push(t, q, 5)
	holds(t, "one", q, 5)
	push(t, q, 5, 0)
	holds(t, "three", q, 5, 5, 0)
	for _, want := range []int{5, 5} {
		if x, ok := q.Pop(); !ok || x != want {
			t.Errorf("Pop() = %d, %t", x, ok)
		}
	}
	holds(t, "a zero one is an item", q, 0)
	push(t, q, 7)
	pops(t, "two", q, 0, 7)
	push(t, q, 1, 2, 3)
	pops(t, "filled behind all went", q, 1, 2, 3)
}

// TestAnyThing: items of kinds that can't be held against each other, and ones of no size.
func TestAnyThing(t *testing.T) {
	l := with(t, 2, []int{1}, nil)
	if x, ok := l.Peek(); !ok || !slices.Equal(x, []int{1}) {
		t.Errorf("Peek() = %v, %t", x, ok)
	}
	if x, ok := l.Pop(); !ok || !slices.Equal(x, []int{1}) {
		t.Errorf("Pop() = %v, %t", x, ok)
	}
	if x, ok := l.Pop(); !ok || x != nil {
		t.Errorf("Pop() = %v, %t", x, ok)
	}
	if x, ok := l.Pop(); ok || x != nil {
		t.Errorf("Pop of none = %v, %t", x, ok)
	}
	f := with(t, 1, func() int { return 3 })
	if x, ok := f.Pop(); !ok || x() != 3 {
		t.Errorf("Pop() = %t", ok)
	}
	if x, ok := f.Peek(); ok || x != nil {
		t.Errorf("Peek of none = %t", ok)
	}
	pops(t, "of no size", with(t, 9, make([]struct{}, 9)...), make([]struct{}, 9)...)
	pops(t, "of an interface", with[any](t, 3, nil, 1, "a"), nil, 1, "a")
}

// TestPopLetsGo: what was popped is not kept.
func TestPopLetsGo(t *testing.T) {
	type thing struct{ l [64]*int }
	q := with[*thing](t, 4)
	var seen []weak.Pointer[thing]
	for range 4 {
		x := new(thing)
		seen = append(seen, weak.Make(x))
		push(t, q, x)
	}
	q.Pop()
	q.Pop()
	runtime.GC()
	for i, x := range seen {
		if (x.Value() == nil) != (i < 2) {
			t.Errorf("item %d is kept: %t", i, x.Value() != nil)
		}
	}
	runtime.KeepAlive(q)
}

// 5.2

func TestAll(t *testing.T) {
	for start := range 8 {
		q := with(t, 6, count(0, 6)...)
		for i := range start {
			if x, ok := q.Pop(); !ok || x != i {
				t.Fatalf("Pop() = %d, %t", x, ok)
			}
			push(t, q, 6+i)
		}
		want := count(start, start+6)
		seq := q.All()
		for n := range 6 {
			var got []int
			for i, x := range seq {
				if i != len(got) {
					t.Errorf("place %d behind %d items", i, len(got))
				}
				got = append(got, x)
				if len(got) > n {
					break
				}
			}
			if !slices.Equal(got, want[:n+1]) {
				t.Errorf("the first %d of All: %v", n+1, got)
			}
		}
		pops(t, "All, gone over often", q, want...)
	}
}

func TestAllIsAsWhenGoneOver(t *testing.T) {
	q := with(t, 3, 1)
	seq := q.All()
	for _, c := range []struct {
		what string
		do   func()
		want []int
	}{
		{"at first", func() {}, []int{1}},
		{"behind two Pushes", func() { q.Push(2); q.Push(3) }, []int{1, 2, 3}},
		{"behind a Push that was refused", func() { q.Push(4) }, []int{1, 2, 3}},
		{"behind a Pop", func() { q.Pop() }, []int{2, 3}},
		{"behind another Push", func() { q.Push(4) }, []int{2, 3, 4}},
		{"behind all Pops", func() { q.Pop(); q.Pop(); q.Pop() }, nil},
		{"behind a Pop of none", func() { q.Pop() }, nil},
	} {
		c.do()
		var got []int
		for _, x := range seq {
			got = append(got, x)
		}
		if !slices.Equal(got, c.want) {
			t.Errorf("All %s: %v, want %v", c.what, got, c.want)
		}
	}
}

// TestAllWhileTheQueueChanges: what is handed out stands as it was when the going over began, and it ends.
func TestAllWhileTheQueueChanges(t *testing.T) {
	q := with(t, 4, 1, 2, 3, 4)
	var got []int
	for i, x := range q.All() {
		got = append(got, i, x)
		q.Pop()
		q.Pop()
		push(t, q, 10*x)
	}
	if !slices.Equal(got, []int{0, 1, 1, 2, 2, 3, 3, 4}) {
		t.Errorf("All while the queue changes: %v", got)
	}
	holds(t, "behind it", q, 40)
	got = nil
	q = with(t, 1<<10, 1, 2)
	for i, x := range q.All() {
		got = append(got, i, x)
		push(t, q, count(3, 100)...)
	}
	if !slices.Equal(got, []int{0, 1, 1, 2}) {
		t.Errorf("All while the queue grows: %v", got)
	}
	q = with(t, 4, 1, 2, 3, 4)
	for i := range q.All() {
		for j := range q.All() {
			if i == j {
				q.Pop()
			}
		}
	}
	holds(t, "gone over within", q, 3, 4)
}

func TestCopy(t *testing.T) {
	for room := 1; room < 12; room++ {
		for start := range room {
			for n := range room + 1 {
				q := with(t, room, make([]int, start)...)
				pops(t, "at first", q, make([]int, start)...)
				push(t, q, count(1, n+1)...)
				c := q.Copy()
				if c == q {
					t.Fatalf("Copy is the queue itself")
				}
				holds(t, "a copy", c, count(1, n+1)...)
				push(t, c, count(n+1, room+1)...)
				if e := c.Push(0); e != api.ErrFull {
					t.Fatalf("room %d: Push on a copy = %d", room, e)
				}
				holds(t, "behind Push on its copy", q, count(1, n+1)...)
				pops(t, "a copy", c, count(1, room+1)...)
				holds(t, "behind Pop of its copy", q, count(1, n+1)...)
				push(t, c, 77)
				pops(t, "the queue", q, count(1, n+1)...)
				holds(t, "a copy behind Pop of the queue", c, 77)
				push(t, q, count(100, 100+room)...)
				if e := q.Push(0); e != api.ErrFull {
					t.Fatalf("room %d: Push = %d", room, e)
				}
				holds(t, "a copy behind Push on the queue", c, 77)
			}
		}
	}
}

// TestCopyOfCopy: copies of copies have the room still, however few items they had.
func TestCopyOfCopy(t *testing.T) {
	q := with(t, 3, 1)
	for range 5 {
		q = q.Copy()
	}
	push(t, q, 2, 3)
	if e := q.Push(4); e != api.ErrFull {
		t.Errorf("Push = %d", e)
	}
	pops(t, "a copy of copies", q, 1, 2, 3)
	for range 5 {
		q = q.Copy()
	}
	pops(t, "a copy of nothing", q)
	push(t, q, 4, 5, 6)
	pops(t, "a copy of nothing", q, 4, 5, 6)
}

func TestNilQueue(t *testing.T) {
	var q *queue.Queue[string]
	for range 2 {
		for _, x := range []string{"", "a"} {
			if e := q.Push(x); e != api.ErrArg {
				t.Errorf("Push(%q) = %d", x, e)
			}
		}
		if x, ok := q.Pop(); ok || x != "" {
			t.Errorf("Pop() = %q, %t", x, ok)
		}
		if x, ok := q.Peek(); ok || x != "" {
			t.Errorf("Peek() = %q, %t", x, ok)
		}
		if n := q.Len(); n != 0 {
			t.Errorf("Len() = %d", n)
		}
		if c := q.Copy(); c != nil {
			t.Errorf("Copy() = %v", c)
		}
		if q.All() == nil {
			t.Fatalf("All() = nil")
		}
		for i, x := range q.All() {
			t.Errorf("All handed out %d, %q", i, x)
		}
	}
	if with[int](t, 1).All() == nil {
		t.Errorf("All() of none = nil")
	}
}

// 5.3

// TestAgainstList goes through many calls, on a queue and its copies, each held against a list that is kept beside it.
func TestAgainstList(t *testing.T) {
	type pair struct {
		q    *queue.Queue[int]
		want []int
	}
	for seed := range uint64(200) {
		roll := dice(seed)
		room, pushes := 1+roll(40), 1+roll(4)
		l := []pair{{q: with[int](t, room)}}
		for next := range 300 {
			at := roll(len(l))
			p := &l[at]
			switch x := roll(pushes + 2); {
			case x < pushes:
				if e := p.q.Push(next); (e == api.OK) != (len(p.want) < room) || e != api.OK && e != api.ErrFull {
					t.Fatalf("Push = %d behind %d of %d", e, len(p.want), room)
				} else if e == api.OK {
					p.want = append(p.want, next)
				}
			case roll(9) == 0 && len(l) < 4:
				l = append(l, pair{p.q.Copy(), slices.Clone(p.want)})
			default:
				x, ok := p.q.Pop()
				if ok != (len(p.want) > 0) || ok && x != p.want[0] || !ok && x != 0 {
					t.Fatalf("Pop() = %d, %t of %v", x, ok, p.want)
				}
				if ok {
					p.want = p.want[1:]
				}
			}
			for _, p := range l {
				holds(t, "behind many calls", p.q, p.want...)
			}
		}
		for _, p := range l {
			pops(t, "behind many calls", p.q, p.want...)
		}
	}
}

// TestPushAndPopTakeFewMoves: neither goes through all that there is.
func TestPushAndPopTakeFewMoves(t *testing.T) {
	const n = 1 << 20
	q := with[int](t, n)
	next, out := 0, 0
	for range n - 1 {
		push(t, q, next)
		next++
	}
	for range 4 * n {
		push(t, q, next)
		if x, ok := q.Pop(); !ok || x != out {
			t.Fatalf("Pop() = %d, %t, want %d", x, ok, out)
		}
		next, out = next+1, out+1
	}
}
