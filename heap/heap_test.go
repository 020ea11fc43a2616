package heap_test

import (
	"cmp"
	"math"
	"math/bits"
	"slices"
	"strings"
	"testing"

	"gavotte/heap"
)

type entry = heap.Entry[string, int]

func of(k string, by int) entry { return entry{Key: k, By: by} }

// rising is by what entries stand by, then by their keys.
func rising(a, b entry) int {
	return cmp.Or(cmp.Compare(a.By, b.By), strings.Compare(a.Key, b.Key))
}

func falling(a, b entry) int { return rising(b, a) }

// byKey doesn't ask what entries stand by.
func byKey(a, b entry) int { return strings.Compare(a.Key, b.Key) }

// far answers the greatest and the least numbers that there are: only what is below or above 0 tells.
func far(a, b entry) int {
	switch c := rising(a, b); {
	case c < 0:
		return math.MinInt
	case c > 0:
		return math.MaxInt
	}
	return 0
}

// with is a heap in which entries were set one by one.
func with(cmp func(a, b entry) int, l ...entry) *heap.Heap[string, int] {
	h := heap.New(cmp)
	for _, e := range l {
		h.Set(e.Key, e.By)
	}
	return h
}

// holds holds a heap against the entries that are to be in it, the least first, and leaves it as it is.
func holds(t *testing.T, what string, h *heap.Heap[string, int], want ...entry) {
	t.Helper()
	if h == nil {
		t.Fatalf("%s: nil", what)
	}
	if got := slices.Collect(h.All()); !slices.Equal(got, want) {
		t.Errorf("%s: All = %v, want %v", what, got, want)
	}
	if h.Len() != len(want) {
		t.Errorf("%s: Len() = %d, want %d", what, h.Len(), len(want))
	}
	var first entry
	if len(want) > 0 {
		first = want[0]
	}
	if e, ok := h.Min(); ok != (len(want) > 0) || e != first {
		t.Errorf("%s: Min() = %v, %t", what, e, ok)
	}
	for _, e := range want {
		if by, ok := h.Get(e.Key); !ok || by != e.By {
			t.Errorf("%s: Get(%q) = %d, %t, want %d", what, e.Key, by, ok, e.By)
		}
	}
	if by, ok := h.Get("no key"); ok || by != 0 {
		t.Errorf("%s: Get of none = %d, %t", what, by, ok)
	}
}

// popped pops all that there is.
func popped[K comparable, T any](h *heap.Heap[K, T]) []heap.Entry[K, T] {
	var l []heap.Entry[K, T]
	for e, ok := h.Pop(); ok; e, ok = h.Pop() {
		l = append(l, e)
	}
	return l
}

// pops holds a heap against the entries that are to be popped, behind which nothing is in it.
func pops(t *testing.T, what string, h *heap.Heap[string, int], want ...entry) {
	t.Helper()
	if got := popped(h); !slices.Equal(got, want) {
		t.Errorf("%s: popped %v, want %v", what, got, want)
	}
	for range 2 {
		if e, ok := h.Pop(); ok || e != (entry{}) {
			t.Errorf("%s: Pop of none = %v, %t", what, e, ok)
		}
	}
	for _, e := range want {
		if by, ok := h.Get(e.Key); ok || by != 0 || h.Del(e.Key) {
			t.Errorf("%s: %q is there behind its Pop", what, e.Key)
		}
	}
	holds(t, what+", popped", h)
}

// dice are numbers below n that look like any, the same ones each time.
func dice(seed uint64) func(n int) int {
	return func(n int) int {
		seed = seed*6364136223846793005 + 1442695040888963407
		return int(seed>>33) % n
	}
}

// orders are all the orders of a list.
func orders[T any](l []T) [][]T {
	if len(l) == 0 {
		return [][]T{nil}
	}
	var all [][]T
	for i, x := range l {
		for _, rest := range orders(slices.Concat(l[:i], l[i+1:])) {
			all = append(all, append([]T{x}, rest...))
		}
	}
	return all
}

func TestExample(t *testing.T) {
	h := heap.New(rising)
	h.Set("a", 3)
	h.Set("b", 1)
	h.Set("a", 0)
	if e, ok := h.Min(); !ok || e != of("a", 0) {
		t.Errorf("Min() = %v, %t", e, ok)
	}
	for _, want := range []entry{of("a", 0), of("b", 1)} {
		if e, ok := h.Pop(); !ok || e != want {
			t.Errorf("Pop() = %v, %t, want %v", e, ok, want)
		}
	}
	holds(t, "behind it", h)
}

// 4.1

func TestNew(t *testing.T) {
	holds(t, "New", heap.New(rising))
	if heap.New[string, int](nil) != nil || heap.New[int, []int](nil) != nil {
		t.Errorf("New of a nil cmp isn't nil")
	}
	one, two := heap.New(rising), heap.New(rising)
	one.Set("a", 1)
	holds(t, "another heap", two)
}

func TestSetAndGet(t *testing.T) {
	h := heap.New(rising)
	h.Set("b", 2)
	holds(t, "one", h, of("b", 2))
	h.Set("a", 2)
	h.Set("c", -1)
	h.Set("", math.MaxInt)
	holds(t, "four", h, of("c", -1), of("a", 2), of("b", 2), of("", math.MaxInt))
	h.Set("c", 3)
	holds(t, "the least one goes behind", h, of("a", 2), of("b", 2), of("c", 3), of("", math.MaxInt))
	h.Set("", math.MinInt)
	holds(t, "the last one goes ahead", h, of("", math.MinInt), of("a", 2), of("b", 2), of("c", 3))
	h.Set("b", 2)
	holds(t, "by the same", h, of("", math.MinInt), of("a", 2), of("b", 2), of("c", 3))
	h.Set("b", 0)
	h.Set("c", 0)
	h.Set("a", 0)
	holds(t, "by nought", h, of("", math.MinInt), of("a", 0), of("b", 0), of("c", 0))
	pops(t, "at last", h, of("", math.MinInt), of("a", 0), of("b", 0), of("c", 0))
}

func TestDel(t *testing.T) {
	h := with(rising, of("a", 5), of("b", 4), of("c", 3), of("d", 2), of("e", 1))
	for _, c := range []struct {
		k    string
		want []entry
	}{
		{"c", []entry{of("e", 1), of("d", 2), of("b", 4), of("a", 5)}},
		{"e", []entry{of("d", 2), of("b", 4), of("a", 5)}},
		{"a", []entry{of("d", 2), of("b", 4)}},
		{"b", []entry{of("d", 2)}},
		{"d", nil},
	} {
		if h.Del(c.k + "x") {
			t.Errorf("Del of none = true")
		}
		if !h.Del(c.k) || h.Del(c.k) {
			t.Errorf("Del(%q): once it is there, then it isn't", c.k)
		}
		holds(t, "Del of "+c.k, h, c.want...)
		if by, ok := h.Get(c.k); ok || by != 0 {
			t.Errorf("Get(%q) behind its Del = %d, %t", c.k, by, ok)
		}
	}
	h.Set("c", 7)
	h.Set("a", 9)
	holds(t, "Set behind Del of all", h, of("c", 7), of("a", 9))
}

// TestDelAnywhere deletes each one of each order in which entries were set; the one that
// comes in for it may have to go up, or down.
func TestDelAnywhere(t *testing.T) {
	l := []entry{of("a", 1), of("b", 2), of("c", 3), of("d", 4), of("e", 5), of("f", 6)}
	for _, order := range orders(l) {
		for i, e := range l {
			h := with(rising, order...)
			if !h.Del(e.Key) {
				t.Fatalf("%v: Del(%q) = false", order, e.Key)
			}
			pops(t, "behind a Del", h, slices.Concat(l[:i], l[i+1:])...)
		}
	}
}

// TestDelWhereTheLastGoesUp: the last one stands beside the branch out of which one is taken, and is less than what stands there.
func TestDelWhereTheLastGoesUp(t *testing.T) {
	h := with(rising, of("a", 0), of("b", 10), of("c", 1), of("d", 11), of("e", 12), of("f", 2), of("g", 3))
	if !h.Del("d") {
		t.Errorf("Del(d) = false")
	}
	want := []entry{of("a", 0), of("c", 1), of("f", 2), of("g", 3), of("b", 10), of("e", 12)}
	holds(t, "Del of d", h, want...)
	pops(t, "Del of d", h, want...)
}

// TestKeys: keys of all kinds that may be held against each other, and things of any kind.
func TestKeys(t *testing.T) {
	type place struct{ x, y int }
	h := heap.New(func(a, b heap.Entry[place, []int]) int {
		return cmp.Or(slices.Compare(a.By, b.By), cmp.Compare(a.Key.x, b.Key.x), cmp.Compare(a.Key.y, b.Key.y))
	})
	h.Set(place{}, []int{1, 2})
	h.Set(place{0, 1}, nil)
	h.Set(place{1, 0}, []int{1})
	h.Set(place{}, []int{0})
	if by, ok := h.Get(place{}); !ok || !slices.Equal(by, []int{0}) {
		t.Errorf("Get of a zero key = %v, %t", by, ok)
	}
	if by, ok := h.Get(place{1, 1}); ok || by != nil {
		t.Errorf("Get of none = %v, %t", by, ok)
	}
	if e, ok := h.Min(); !ok || e.Key != (place{0, 1}) || e.By != nil {
		t.Errorf("Min() = %v, %t", e, ok)
	}
	var keys []place
	for _, e := range popped(h) {
		keys = append(keys, e.Key)
	}
	if !slices.Equal(keys, []place{{0, 1}, {}, {1, 0}}) {
		t.Errorf("popped %v", keys)
	}
	if e, ok := h.Pop(); ok || e.Key != (place{}) || e.By != nil {
		t.Errorf("Pop of none = %v, %t", e, ok)
	}
}

// TestKeysThatAreNone: a list in an interface is no key, and nothing panics at it.
func TestKeysThatAreNone(t *testing.T) {
	h := heap.New(func(a, b heap.Entry[any, int]) int { return cmp.Compare(a.By, b.By) })
	for _, k := range []any{[]int{1}, map[int]int{}, struct{ f func() }{}} {
		for range 2 {
			if by, ok := h.Get(k); ok || by != 0 || h.Del(k) {
				t.Errorf("%T is a key", k)
			}
			h.Set(k, h.Len())
		}
	}
	h.Set(nil, 2)
	h.Set(any("1"), 1)
	h.Set([]int{1}, 0)
	if by, ok := h.Get(nil); !ok || by != 2 {
		t.Errorf("Get(nil) = %d, %t", by, ok)
	}
	if got := popped(h); len(got) != 2 || got[0].Key != any("1") || got[1].Key != nil {
		t.Errorf("popped %v", got)
	}
}

// 4.2

func TestMinAndPop(t *testing.T) {
	l := []entry{of("a", 2), of("b", 1), of("c", 2), of("d", 0), of("e", 1)}
	for _, c := range []struct {
		what string
		cmp  func(a, b entry) int
		want []entry
	}{
		{"rising", rising, []entry{of("d", 0), of("b", 1), of("e", 1), of("a", 2), of("c", 2)}},
		{"falling", falling, []entry{of("c", 2), of("a", 2), of("e", 1), of("b", 1), of("d", 0)}},
		{"by far answers", far, []entry{of("d", 0), of("b", 1), of("e", 1), of("a", 2), of("c", 2)}},
		{"by keys", byKey, l},
	} {
		for _, order := range orders(l) {
			h := with(c.cmp, order...)
			for i, want := range c.want {
				for range 2 {
					if e, ok := h.Min(); !ok || e != want || h.Len() != len(l)-i {
						t.Fatalf("%s, %v: Min() = %v, %t, %d there", c.what, order, e, ok, h.Len())
					}
				}
				if e, ok := h.Pop(); !ok || e != want || h.Len() != len(l)-i-1 {
					t.Fatalf("%s, %v: Pop() = %v, %t, %d left", c.what, order, e, ok, h.Len())
				}
			}
			pops(t, c.what, h)
		}
	}
}

func TestMinAndPopOfNone(t *testing.T) {
	h := heap.New(rising)
	holds(t, "New", h)
	pops(t, "New", h)
	h.Set("a", 1)
	pops(t, "one", h, of("a", 1))
	h.Set("a", 2)
	holds(t, "Set behind a Pop", h, of("a", 2))
}

// TestPopAsksFewTimes: neither Set nor Del nor Pop asks how all entries stand to each other.
func TestPopAsksFewTimes(t *testing.T) {
	asked := 0
	h := heap.New(func(a, b heap.Entry[int, int]) int {
		asked++
		return cmp.Compare(a.By, b.By)
	})
	const n = 1 << 14
	few := 2 * bits.Len(n)
	ask := func(what string, do func()) {
		t.Helper()
		asked = 0
		do()
		if asked > few {
			t.Fatalf("%s asked %d times", what, asked)
		}
	}
	for i := range n {
		ask("Set", func() { h.Set(i, i*40503%n) })
	}
	for i := range n {
		ask("Set", func() { h.Set(i, (i+1)*40503%n) })
	}
	for i := range n / 4 {
		ask("Del", func() { h.Del(4 * i) })
	}
	ask("the first of All", func() {
		for range h.All() {
			break
		}
	})
	last := -1
	for range n - n/4 {
		ask("Pop", func() {
			e, ok := h.Pop()
			if !ok || e.By <= last || e.By != (e.Key+1)*40503%n || e.Key%4 == 0 {
				t.Fatalf("Pop() = %v, %t behind %d", e, ok, last)
			}
			last = e.By
		})
	}
	if h.Len() != 0 {
		t.Errorf("%d left", h.Len())
	}
}

// TestOrderThatPanics: what a cmp does is the caller's own, but the heap stays whole.
func TestOrderThatPanics(t *testing.T) {
	l := []entry{of("a", 1), of("b", 2), of("c", 3), of("d", 4), of("e", 5)}
	for _, do := range []func(h *heap.Heap[string, int]){
		func(h *heap.Heap[string, int]) { h.Set("f", 0) },
		func(h *heap.Heap[string, int]) { h.Set("a", 6) },
		func(h *heap.Heap[string, int]) { h.Set("e", 0) },
		func(h *heap.Heap[string, int]) { h.Del("b") },
		func(h *heap.Heap[string, int]) { h.Pop() },
	} {
		for good := range 3 {
			bad, asked := false, 0
			h := with(func(a, b entry) int {
				if bad {
					if asked == good {
						panic("no order")
					}
					asked++
				}
				return rising(a, b)
			}, l...)
			bad = true
			told := panicked(func() { do(h) })
			bad = false
			if told {
				holds(t, "behind a panic", h, l...)
				pops(t, "behind a panic", h, l...)
			} else if good == 0 {
				t.Errorf("the panic of a cmp was not told")
			}
		}
	}
}

// TestNoOrder: nothing is promised of how entries stand by answers that are no order, but nothing panics, and none gets lost.
func TestNoOrder(t *testing.T) {
	for seed := range uint64(40) {
		roll := dice(seed)
		h, want := heap.New(func(a, b entry) int { return roll(3) - 1 }), keep{}
		for range 200 {
			k := string(rune('A' + roll(12)))
			switch roll(4) {
			case 0:
				_, there := want[k]
				if got := h.Del(k); got != there {
					t.Fatalf("Del(%q) = %t", k, got)
				}
				delete(want, k)
			case 1:
				e, ok := h.Pop()
				if by, there := want[e.Key]; ok != (len(want) > 0) || ok && (!there || by != e.By) {
					t.Fatalf("Pop() = %v, %t of %v", e, ok, want)
				}
				delete(want, e.Key)
			default:
				h.Set(k, roll(9))
				want[k], _ = h.Get(k)
			}
			got := slices.SortedFunc(h.All(), rising)
			if h.Len() != len(want) || !slices.Equal(got, want.sorted(rising)) {
				t.Fatalf("%v, want %v", got, want)
			}
		}
	}
}

func panicked(do func()) (yes bool) {
	defer func() { yes = recover() != nil }()
	do()
	return false
}

// 4.3

func TestAll(t *testing.T) {
	l := []entry{of("a", 1), of("b", 2), of("c", 3), of("d", 4), of("e", 5), of("f", 6)}
	for _, order := range orders(l) {
		h := with(rising, order...)
		all := h.All()
		for n := range len(l) {
			var got []entry
			for e := range all {
				got = append(got, e)
				if len(got) > n {
					break
				}
			}
			if !slices.Equal(got, l[:n+1]) {
				t.Fatalf("%v: the first %d of All: %v", order, n+1, got)
			}
		}
		holds(t, "All, gone over often", h, l...)
		pops(t, "All, gone over often", h, l...)
		if got := slices.Collect(all); got != nil {
			t.Fatalf("All of what is empty by now: %v", got)
		}
	}
}

func TestAllIsAsWhenGoneOver(t *testing.T) {
	h := with(rising, of("b", 2))
	all, low := h.All(), h.While(func(by int) bool { return by < 3 })
	for _, c := range []struct {
		what string
		do   func()
		all  []entry
		low  []string
	}{
		{"at first", func() {}, []entry{of("b", 2)}, []string{"b"}},
		{"behind a Set", func() { h.Set("a", 1); h.Set("c", 3) }, []entry{of("a", 1), of("b", 2), of("c", 3)}, []string{"a", "b"}},
		{"behind a Set to something else", func() { h.Set("a", 4) }, []entry{of("b", 2), of("c", 3), of("a", 4)}, []string{"b"}},
		{"behind a Del", func() { h.Del("b") }, []entry{of("c", 3), of("a", 4)}, nil},
		{"behind a Pop", func() { h.Pop() }, []entry{of("a", 4)}, nil},
		{"behind all", func() { h.Pop() }, nil, nil},
	} {
		c.do()
		if got := slices.Collect(all); !slices.Equal(got, c.all) {
			t.Errorf("All %s: %v, want %v", c.what, got, c.all)
		}
		if got := slices.Collect(low); !slices.Equal(got, c.low) {
			t.Errorf("While %s: %v, want %v", c.what, got, c.low)
		}
	}
}

// TestWhileTheHeapChanges: what is handed out stands as it was when the going over began, and it ends.
func TestWhileTheHeapChanges(t *testing.T) {
	l := []entry{of("a", 1), of("b", 2), of("c", 3), of("d", 4)}
	h := with(rising, l...)
	var got []entry
	for e := range h.All() {
		got = append(got, e)
		h.Pop()
		h.Set(e.Key+e.Key, 0)
		h.Set("d", -1)
	}
	if !slices.Equal(got, l) {
		t.Errorf("All while the heap changes: %v", got)
	}
	h = with(rising, l...)
	var keys []string
	for k := range h.While(func(by int) bool { return by < 4 }) {
		keys = append(keys, k)
		h.Set("d", 0)
		h.Del("b")
		h.Set(k+k, 2)
	}
	if !slices.Equal(keys, []string{"a", "b", "c"}) {
		t.Errorf("While while the heap changes: %v", keys)
	}
	h = with(rising, l...)
	for e := range h.All() {
		if !h.Del(e.Key) {
			t.Errorf("Del(%q) = false", e.Key)
		}
	}
	holds(t, "behind a Del of all", h)
}

func TestWhile(t *testing.T) {
	l := []entry{of("e", 1), of("b", 1), of("d", 2), of("a", 3), of("f", 1), of("c", 5)}
	for _, c := range []struct {
		what string
		so   func(int) bool
		want []string
	}{
		{"all", func(int) bool { return true }, []string{"b", "e", "f", "d", "a", "c"}},
		{"none", func(int) bool { return false }, nil},
		{"as the least one", func(by int) bool { return by == 1 }, []string{"b", "e", "f"}},
		{"not the least one", func(by int) bool { return by > 1 }, nil},
		{"less than the last one", func(by int) bool { return by < 5 }, []string{"b", "e", "f", "d", "a"}},
		{"so again behind one that isn't", func(by int) bool { return by != 2 }, []string{"b", "e", "f"}},
	} {
		for _, order := range orders(l) {
			h := with(rising, order...)
			seq := h.While(c.so)
			for range 2 {
				if got := slices.Collect(seq); !slices.Equal(got, c.want) {
					t.Fatalf("While %s: %v, want %v", c.what, got, c.want)
				}
			}
			for n := range len(c.want) {
				var got []string
				for k := range seq {
					got = append(got, k)
					if len(got) > n {
						break
					}
				}
				if !slices.Equal(got, c.want[:n+1]) {
					t.Fatalf("the first %d of While %s: %v", n+1, c.what, got)
				}
			}
			if h.Len() != len(l) {
				t.Fatalf("While %s changed the heap", c.what)
			}
			pops(t, "While "+c.what, h, slices.SortedFunc(slices.Values(l), rising)...)
		}
	}
}

func TestGoingOverNothing(t *testing.T) {
	yes := func(int) bool { return true }
	var none *heap.Heap[string, int]
	for what, seq := range map[string]func(func(string) bool){
		"of an empty heap":         heap.New(rising).While(yes),
		"of a nil so":              with(rising, of("a", 1)).While(nil),
		"of a nil heap":            none.While(yes),
		"of a nil heap and nil so": none.While(nil),
	} {
		if seq == nil {
			t.Fatalf("While %s = nil", what)
		}
		for k := range seq {
			t.Errorf("While %s handed out %q", what, k)
		}
	}
	for what, seq := range map[string]func(func(entry) bool){
		"of an empty heap": heap.New(rising).All(),
		"of a nil heap":    none.All(),
	} {
		if seq == nil {
			t.Fatalf("All %s = nil", what)
		}
		for e := range seq {
			t.Errorf("All %s handed out %v", what, e)
		}
	}
}

// 4.4

func TestNilHeap(t *testing.T) {
	var h *heap.Heap[string, int]
	for range 2 {
		if n := h.Len(); n != 0 {
			t.Errorf("Len() = %d", n)
		}
		for _, k := range []string{"", "a"} {
			if by, ok := h.Get(k); ok || by != 0 || h.Del(k) {
				t.Errorf("%q is there", k)
			}
		}
		if e, ok := h.Min(); ok || e != (entry{}) {
			t.Errorf("Min() = %v, %t", e, ok)
		}
		if e, ok := h.Pop(); ok || e != (entry{}) {
			t.Errorf("Pop() = %v, %t", e, ok)
		}
		if got := slices.Collect(h.All()); got != nil {
			t.Errorf("All = %v", got)
		}
		h.Set("a", 1)
		h.Set("", 0)
	}
}

// 4.5

// keep is what a heap is to hold, told apart from the program: a map, sorted each time.
type keep map[string]int

func (m keep) sorted(cmp func(a, b entry) int) []entry {
	var l []entry
	for k, by := range m {
		l = append(l, of(k, by))
	}
	slices.SortFunc(l, cmp)
	return l
}

// TestAgainstMap goes through many calls, each held against a map that is kept beside the heap.
func TestAgainstMap(t *testing.T) {
	for seed := range uint64(60) {
		roll := dice(seed)
		by := []func(a, b entry) int{rising, falling, byKey}[roll(3)]
		keys, sets := 1+roll(40), 2+roll(3)
		key := func() string { return string(rune('A' + roll(keys))) }
		h, want := heap.New(by), keep{}
		for range 300 {
			switch x := roll(sets + 2); {
			case x < sets:
				k, n := key(), roll(9)-4
				h.Set(k, n)
				want[k] = n
			case x == sets:
				k := key()
				_, there := want[k]
				if got := h.Del(k); got != there {
					t.Fatalf("Del(%q) = %t", k, got)
				}
				delete(want, k)
			default:
				l := want.sorted(by)
				e, ok := h.Pop()
				if ok != (len(l) > 0) || ok && e != l[0] {
					t.Fatalf("Pop() = %v, %t of %v", e, ok, l)
				}
				delete(want, e.Key)
			}
			holds(t, "behind many calls", h, want.sorted(by)...)
		}
		pops(t, "behind many calls", h, want.sorted(by)...)
	}
}
