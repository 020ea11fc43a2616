package bag_test

import (
	"cmp"
	"math"
	"slices"
	"strings"
	"testing"

	"gavotte/bag"
)

// card is held against others by its key alone: by their names those that are level are told apart.
type card struct {
	key  int
	name string
}

func byKey(a, b card) int { return cmp.Compare(a.key, b.key) }

func byKeyDown(a, b card) int { return cmp.Compare(b.key, a.key) }

func rising(a, b int) int { return cmp.Compare(a, b) }

func falling(a, b int) int { return cmp.Compare(b, a) }

// far answers the greatest and the least numbers that there are: only what is below or above 0 tells.
func far(a, b int) int {
	if a < b {
		return math.MinInt
	}
	if a > b {
		return math.MaxInt
	}
	return 0
}

// listed is what All hands out; its places are held against 0, 1, 2, ...
func listed[T any](t *testing.T, b *bag.Bag[T]) []T {
	t.Helper()
	var l []T
	for i, x := range b.All() {
		if i != len(l) {
			t.Errorf("All: place %d, want %d", i, len(l))
		}
		l = append(l, x)
	}
	return l
}

// holds holds a bag against what is to be in it, by Len, At and All.
func holds[T comparable](t *testing.T, what string, b *bag.Bag[T], want ...T) {
	t.Helper()
	if b == nil {
		t.Fatalf("%s: nil", what)
	}
	if got := listed(t, b); !slices.Equal(got, want) {
		t.Errorf("%s: %v, want %v", what, got, want)
	}
	if b.Len() != len(want) {
		t.Errorf("%s: Len() = %d, want %d", what, b.Len(), len(want))
	}
	for i, x := range want {
		if got, ok := b.At(i); !ok || got != x {
			t.Errorf("%s: At(%d) = %v, %t, want %v", what, i, got, ok, x)
		}
	}
	var none T
	for _, i := range []int{-1, len(want), len(want) + 1, math.MinInt, math.MaxInt} {
		if got, ok := b.At(i); ok || got != none {
			t.Errorf("%s: At(%d) = %v, %t", what, i, got, ok)
		}
	}
}

// put is how a thing comes into a sorted list, told apart from the program: behind the last one that isn't above it.
func put[T any](l []T, cmp func(a, b T) int, things ...T) []T {
	for _, x := range things {
		at := len(l)
		for at > 0 && cmp(l[at-1], x) > 0 {
			at--
		}
		l = slices.Insert(l, at, x)
	}
	return l
}

// dice are numbers below n that look like any, the same ones each time.
func dice(seed uint64) func(n int) int {
	return func(n int) int {
		seed = seed*6364136223846793005 + 1442695040888963407
		return int(seed>>33) % n
	}
}

// deals are cards, many of them level, named by where they came.
func deals(roll func(int) int, n, keys int) []card {
	var l []card
	for range n {
		l = append(l, card{roll(keys), strings.Repeat("x", roll(9))})
	}
	return l
}

// 3.1

func TestNewAndPut(t *testing.T) {
	b := bag.New(rising, 3, 1)
	holds(t, "New(3, 1)", b, 1, 3)
	b.Put(2, 1)
	holds(t, "Put(2, 1)", b, 1, 1, 2, 3)
	if !b.Drop(1) {
		t.Errorf("Drop(1) = false")
	}
	holds(t, "Drop(1)", b, 1, 2, 3)
	b.Put()
	b.Put([]int{}...)
	holds(t, "Put()", b, 1, 2, 3)
	b.Put(0)
	b.Put(4)
	b.Put(math.MaxInt, math.MinInt)
	holds(t, "Put at both ends", b, math.MinInt, 0, 1, 2, 3, 4, math.MaxInt)
	holds(t, "New()", bag.New(rising))
	holds(t, "New of a nil list", bag.New(rising, []int(nil)...))
	holds(t, "New of one", bag.New(rising, 7), 7)
	holds(t, "New by a falling order", bag.New(falling, 2, 3, 1, 2), 3, 2, 2, 1)
	holds(t, "New by far answers", bag.New(far, 2, 3, 1, 2), 1, 2, 2, 3)
	holds(t, "New of texts", bag.New(strings.Compare, "b", "", "ab", "a"), "", "a", "ab", "b")
	holds(t, "New of things that are all one", bag.New(func(a, b struct{}) int { return 0 }, struct{}{}, struct{}{}), struct{}{}, struct{}{})
}

func TestNewOfNoOrder(t *testing.T) {
	if bag.New[int](nil) != nil || bag.New(nil, 1, 2) != nil || bag.New[card](nil, card{}) != nil {
		t.Errorf("New of a nil cmp isn't nil")
	}
}

func TestLevelThingsStandAsTheyCame(t *testing.T) {
	b := bag.New(byKey, card{2, "a"}, card{1, "b"}, card{2, "c"})
	holds(t, "New", b, card{1, "b"}, card{2, "a"}, card{2, "c"})
	b.Put(card{1, "d"}, card{3, "e"}, card{2, "f"}, card{1, "g"})
	holds(t, "Put", b, card{1, "b"}, card{1, "d"}, card{1, "g"}, card{2, "a"}, card{2, "c"}, card{2, "f"}, card{3, "e"})
	b.Put(card{2, "a"})
	holds(t, "Put of one", b, card{1, "b"}, card{1, "d"}, card{1, "g"}, card{2, "a"}, card{2, "c"}, card{2, "f"}, card{2, "a"}, card{3, "e"})
	level := bag.New(func(a, b card) int { return 0 }, card{9, "a"}, card{8, "b"})
	level.Put(card{7, "c"}, card{9, "d"})
	holds(t, "Put where all are level", level, card{9, "a"}, card{8, "b"}, card{7, "c"}, card{9, "d"})
}

func TestCount(t *testing.T) {
	b := bag.New(byKey, card{4, "a"}, card{2, "b"}, card{4, "c"}, card{8, "d"}, card{4, "e"})
	for key, want := range []int{0, 0, 1, 0, 3, 0, 0, 0, 1, 0} {
		if got := b.Count(card{key, "another"}); got != want {
			t.Errorf("Count of %d = %d, want %d", key, got, want)
		}
	}
	if got := bag.New(byKey).Count(card{}); got != 0 {
		t.Errorf("Count in an empty bag = %d", got)
	}
	if got := bag.New(far, 1, 2, 2, 3).Count(2); got != 2 {
		t.Errorf("Count by far answers = %d", got)
	}
}

func TestDrop(t *testing.T) {
	b := bag.New(byKey, card{4, "a"}, card{2, "b"}, card{4, "c"}, card{8, "d"}, card{4, "e"})
	for _, key := range []int{math.MinInt, 1, 3, 5, 9, math.MaxInt} {
		if b.Drop(card{key, "a"}) {
			t.Errorf("Drop of %d = true", key)
		}
	}
	holds(t, "Drop of what isn't there", b, card{2, "b"}, card{4, "a"}, card{4, "c"}, card{4, "e"}, card{8, "d"})
	for i, want := range [][]card{
		{{2, "b"}, {4, "c"}, {4, "e"}, {8, "d"}},
		{{2, "b"}, {4, "e"}, {8, "d"}},
		{{2, "b"}, {8, "d"}},
	} {
		if !b.Drop(card{4, "e"}) {
			t.Errorf("Drop %d = false", i)
		}
		holds(t, "Drop of the first that is level", b, want...)
	}
	if b.Drop(card{4, "e"}) || !b.Drop(card{8, ""}) || !b.Drop(card{2, ""}) || b.Drop(card{2, ""}) {
		t.Errorf("Drop of the others")
	}
	holds(t, "Drop of all", b)
	b.Put(card{4, "f"})
	holds(t, "Put behind a Drop of all", b, card{4, "f"})
}

// TestAgainstList goes through many calls, each held against a list that is kept slowly.
func TestAgainstList(t *testing.T) {
	for seed := range uint64(20) {
		roll := dice(seed)
		keys := 1 + roll(12)
		start := deals(roll, roll(30), keys)
		b, want := bag.New(byKey, start...), put(nil, byKey, start...)
		for range 200 {
			if x := (card{roll(keys+2) - 1, "q"}); roll(2) == 0 {
				more := deals(roll, roll(5), keys)
				b.Put(more...)
				want = put(want, byKey, more...)
			} else {
				level := func(c card) bool { return c.key == x.key }
				at := slices.IndexFunc(want, level)
				if got := b.Drop(x); got != (at >= 0) {
					t.Fatalf("Drop(%v) = %t", x, got)
				}
				if at >= 0 {
					want = slices.Delete(want, at, at+1)
				}
				n := 0
				for _, c := range want {
					if level(c) {
						n++
					}
				}
				if got := b.Count(x); got != n {
					t.Fatalf("Count(%v) = %d, want %d", x, got, n)
				}
			}
			holds(t, "behind many calls", b, want...)
		}
	}
}

// TestMany: neither many at once nor many one by one take long.
func TestMany(t *testing.T) {
	const n = 1 << 15
	var l []int
	for i := range n {
		l = append(l, i*40503%n)
	}
	b := bag.New(rising, l...)
	for _, x := range l {
		b.Put(x)
	}
	for i := range 2 * n {
		if x, ok := b.At(i); !ok || x != i/2 {
			t.Fatalf("At(%d) = %d, %t", i, x, ok)
		}
	}
	for _, x := range l {
		if b.Count(x) != 2 || !b.Drop(x) || !b.Drop(x) || b.Drop(x) {
			t.Fatalf("not twice there: %d", x)
		}
	}
	holds(t, "Drop of all", b)
}

// TestListsAreTheCallers: what is handed in is neither changed nor kept, spare room included.
func TestListsAreTheCallers(t *testing.T) {
	room := []int{3, 1, 2, 9, 9, 9}
	b := bag.New(rising, room[:3]...)
	if !slices.Equal(room, []int{3, 1, 2, 9, 9, 9}) {
		t.Errorf("New changed its list: %v", room)
	}
	room[0], room[3] = 77, 78
	holds(t, "a write behind New", b, 1, 2, 3)
	more := []int{5, 0, 4, 8, 8, 8}
	b.Put(more[:3]...)
	if !slices.Equal(more, []int{5, 0, 4, 8, 8, 8}) {
		t.Errorf("Put changed its list: %v", more)
	}
	more[0], more[3] = 77, 78
	b.Put(6)
	holds(t, "a write behind Put", b, 0, 1, 2, 3, 4, 5, 6)
	if !slices.Equal(room, []int{77, 1, 2, 78, 9, 9}) || !slices.Equal(more, []int{77, 0, 4, 78, 8, 8}) {
		t.Errorf("a later Put wrote into the lists: %v, %v", room, more)
	}
	b.Drop(3)
	if !slices.Equal(room, []int{77, 1, 2, 78, 9, 9}) || !slices.Equal(more, []int{77, 0, 4, 78, 8, 8}) {
		t.Errorf("Drop wrote into the lists: %v, %v", room, more)
	}
}

// TestOrderThatPanics: what a cmp does is the caller's own, but the bag stays whole.
func TestOrderThatPanics(t *testing.T) {
	bad := false
	b := bag.New(func(a, b int) int {
		if bad && a == 2 {
			panic("no order")
		}
		return cmp.Compare(a, b)
	}, 1, 2, 3)
	func() {
		defer func() {
			if recover() == nil {
				t.Errorf("the panic of a cmp was not told")
			}
		}()
		bad = true
		b.Put(4, 0, 3)
	}()
	bad = false
	holds(t, "behind a panic", b, 1, 2, 3)
}

// 3.2

func TestAll(t *testing.T) {
	b := bag.New(byKey, card{2, "a"}, card{1, "b"}, card{2, "c"}, card{0, "d"})
	want := []card{{0, "d"}, {1, "b"}, {2, "a"}, {2, "c"}}
	all := b.All()
	for n := range len(want) {
		var got []card
		for i, x := range all {
			got = append(got, x)
			if i == n {
				break
			}
		}
		if !slices.Equal(got, want[:n+1]) {
			t.Errorf("the first %d of All: %v", n+1, got)
		}
	}
	holds(t, "All, gone over often", b, want...)
	none := bag.New(byKey).All()
	if none == nil {
		t.Fatalf("All of an empty bag = nil")
	}
	for i, x := range none {
		t.Errorf("All of an empty bag: %d, %v", i, x)
	}
}

func TestAllIsAsWhenGoneOver(t *testing.T) {
	b := bag.New(rising, 2)
	all := b.All()
	collect := func() (l []int) {
		for _, x := range all {
			l = append(l, x)
		}
		return l
	}
	b.Put(1, 3)
	if got := collect(); !slices.Equal(got, []int{1, 2, 3}) {
		t.Errorf("All behind a Put: %v", got)
	}
	b.Drop(2)
	if got := collect(); !slices.Equal(got, []int{1, 3}) {
		t.Errorf("All behind a Drop: %v", got)
	}
	b.Drop(1)
	b.Drop(3)
	if got := collect(); got != nil {
		t.Errorf("All of what is empty by now: %v", got)
	}
}

// TestAllWhileTheBagChanges: what is handed out stands as it was when the going over began, and it ends.
func TestAllWhileTheBagChanges(t *testing.T) {
	b := bag.New(rising, 1, 2, 3, 4)
	var got []int
	for i, x := range b.All() {
		if i != len(got) {
			t.Errorf("place %d, want %d", i, len(got))
		}
		got = append(got, x)
		b.Drop(x)
		b.Put(x+10, 0)
	}
	if !slices.Equal(got, []int{1, 2, 3, 4}) {
		t.Errorf("All while things are dropped and put: %v", got)
	}
	holds(t, "behind it", b, 0, 0, 0, 0, 11, 12, 13, 14)
	got = nil
	for x := range b.Where(func(x int) bool { return x > 0 }) {
		got = append(got, x)
		for b.Drop(x + 1) {
		}
		b.Put(x, 99)
	}
	if !slices.Equal(got, []int{11, 12, 13, 14}) {
		t.Errorf("Where while things are dropped and put: %v", got)
	}
}

func TestWhere(t *testing.T) {
	b := bag.New(byKey, card{2, "a"}, card{1, "b"}, card{2, "c"}, card{3, "d"}, card{0, "e"}, card{2, "f"})
	for _, c := range []struct {
		what string
		so   func(card) bool
		want []card
	}{
		{"all", func(card) bool { return true }, []card{{0, "e"}, {1, "b"}, {2, "a"}, {2, "c"}, {2, "f"}, {3, "d"}}},
		{"none", func(card) bool { return false }, nil},
		{"twos", func(c card) bool { return c.key == 2 }, []card{{2, "a"}, {2, "c"}, {2, "f"}}},
		{"odd", func(c card) bool { return c.key%2 == 1 }, []card{{1, "b"}, {3, "d"}}},
		{"ends", func(c card) bool { return c.name == "e" || c.name == "d" }, []card{{0, "e"}, {3, "d"}}},
	} {
		seq := b.Where(c.so)
		for range 2 {
			if got := slices.Collect(seq); !slices.Equal(got, c.want) {
				t.Errorf("Where %s: %v", c.what, got)
			}
		}
		for n := range len(c.want) {
			var got []card
			for x := range seq {
				got = append(got, x)
				if len(got) > n {
					break
				}
			}
			if !slices.Equal(got, c.want[:n+1]) {
				t.Errorf("the first %d of Where %s: %v", n+1, c.what, got)
			}
		}
	}
	twos := b.Where(func(c card) bool { return c.key == 2 })
	b.Drop(card{2, ""})
	b.Put(card{2, "g"}, card{1, "h"})
	if got := slices.Collect(twos); !slices.Equal(got, []card{{2, "c"}, {2, "f"}, {2, "g"}}) {
		t.Errorf("Where behind a change: %v", got)
	}
}

func TestWhereOfNothing(t *testing.T) {
	yes := func(int) bool { return true }
	for what, seq := range map[string]func(func(int) bool){
		"of an empty bag":         bag.New(rising).Where(yes),
		"of a nil so":             bag.New(rising, 1, 2).Where(nil),
		"of a nil bag":            (*bag.Bag[int])(nil).Where(yes),
		"of a nil bag and nil so": (*bag.Bag[int])(nil).Where(nil),
	} {
		if seq == nil {
			t.Fatalf("Where %s = nil", what)
		}
		for x := range seq {
			t.Errorf("Where %s handed out %d", what, x)
		}
	}
}

// 3.3

func TestMerge(t *testing.T) {
	a := bag.New(byKey, card{2, "a"}, card{1, "b"}, card{2, "c"})
	b := bag.New(byKeyDown, card{2, "d"}, card{3, "e"}, card{2, "f"}, card{0, "g"}, card{1, "h"})
	isA := []card{{1, "b"}, {2, "a"}, {2, "c"}}
	isB := []card{{3, "e"}, {2, "d"}, {2, "f"}, {1, "h"}, {0, "g"}}
	ab := bag.Merge(a, b)
	wantAB := []card{{0, "g"}, {1, "b"}, {1, "h"}, {2, "a"}, {2, "c"}, {2, "d"}, {2, "f"}, {3, "e"}}
	holds(t, "Merge(a, b)", ab, wantAB...)
	ba := bag.Merge(b, a)
	wantBA := []card{{3, "e"}, {2, "d"}, {2, "f"}, {2, "a"}, {2, "c"}, {1, "h"}, {1, "b"}, {0, "g"}}
	holds(t, "Merge(b, a)", ba, wantBA...)
	ab.Put(card{1, "x"})
	holds(t, "Put into a merged one", ab, slices.Insert(slices.Clone(wantAB), 3, card{1, "x"})...)
	ab.Drop(card{2, ""})
	ba.Drop(card{3, ""})
	holds(t, "a, behind changes of what was merged", a, isA...)
	holds(t, "b, behind changes of what was merged", b, isB...)
	another := bag.Merge(a, b)
	a.Drop(card{1, ""})
	b.Put(card{1, "y"})
	holds(t, "what was merged, behind changes of the two", another, wantAB...)
}

// TestMergeByAnotherOrder: what is level by a's order comes from b as it stands there.
func TestMergeByAnotherOrder(t *testing.T) {
	byName := func(a, b card) int { return strings.Compare(a.name, b.name) }
	a := bag.New(byKey, card{1, "z"})
	b := bag.New(byName, card{1, "c"}, card{0, "b"}, card{1, "a"}, card{0, "d"})
	holds(t, "Merge", bag.Merge(a, b), card{0, "b"}, card{0, "d"}, card{1, "z"}, card{1, "a"}, card{1, "c"})
	holds(t, "Merge the other way", bag.Merge(b, a), card{1, "a"}, card{0, "b"}, card{1, "c"}, card{0, "d"}, card{1, "z"})
}

func TestMergeAtTheEdges(t *testing.T) {
	some, none := bag.New(rising, 2, 1), bag.New(falling)
	for _, m := range []*bag.Bag[int]{bag.Merge(some, nil), bag.Merge(nil, some), bag.Merge[int](nil, nil), bag.Merge(none, nil), bag.Merge(nil, none)} {
		if m != nil {
			t.Errorf("Merge with nil isn't nil")
		}
	}
	holds(t, "Merge with an empty one", bag.Merge(some, none), 1, 2)
	holds(t, "Merge of an empty one", bag.Merge(none, some), 2, 1)
	holds(t, "Merge of two empty ones", bag.Merge(none, bag.New(rising)))
	twice := bag.Merge(some, some)
	holds(t, "Merge with itself", twice, 1, 1, 2, 2)
	if twice == some || bag.Merge(some, none) == some || bag.Merge(none, some) == some {
		t.Errorf("Merge answered one of the two")
	}
	twice.Put(3)
	holds(t, "behind it", some, 1, 2)
}

func TestSame(t *testing.T) {
	a := bag.New(byKey, card{1, "a"}, card{2, "b"}, card{2, "c"})
	for _, c := range []struct {
		what string
		b    *bag.Bag[card]
		want bool
	}{
		{"alike", bag.New(byKey, card{2, "b"}, card{2, "c"}, card{1, "a"}), true},
		{"level", bag.New(byKey, card{2, "x"}, card{1, "y"}, card{2, "z"}), true},
		{"one less", bag.New(byKey, card{1, "a"}, card{2, "b"}), false},
		{"one more", bag.New(byKey, card{1, "a"}, card{2, "b"}, card{2, "c"}, card{2, "d"}), false},
		{"another first", bag.New(byKey, card{0, "a"}, card{2, "b"}, card{2, "c"}), false},
		{"another last", bag.New(byKey, card{1, "a"}, card{2, "b"}, card{3, "c"}), false},
		{"another in the midst", bag.New(byKey, card{1, "a"}, card{1, "b"}, card{2, "c"}), false},
		{"as many, by another order", bag.New(byKeyDown, card{1, "a"}, card{2, "b"}, card{2, "c"}), false},
		{"place by place, by another order", bag.New(func(a, b card) int { return 0 }, card{1, "c"}, card{2, "b"}, card{2, "a"}), true},
		{"empty", bag.New(byKey), false},
		{"nil", nil, false},
		{"itself", a, true},
	} {
		if got := bag.Same(a, c.b); got != c.want {
			t.Errorf("Same with %s = %t", c.what, got)
		}
	}
}

// TestSameByTheFirstOrder: of two orders a's tells.
func TestSameByTheFirstOrder(t *testing.T) {
	coarse := bag.New(func(a, b int) int { return rising(a/10, b/10) }, 11, 12, 21)
	fine := bag.New(rising, 13, 19, 25)
	if !bag.Same(coarse, fine) || bag.Same(fine, coarse) {
		t.Errorf("Same by another order than the first bag's")
	}
}

func TestSameAtTheEdges(t *testing.T) {
	none := bag.New(rising)
	if !bag.Same[int](nil, nil) || !bag.Same(none, bag.New(falling)) {
		t.Errorf("Same of two without anything = false")
	}
	if bag.Same(none, nil) || bag.Same(nil, none) || bag.Same(bag.New(rising, 1), nil) || bag.Same(nil, bag.New(rising, 1)) {
		t.Errorf("Same of nil and a bag = true")
	}
}

// 3.4

func TestNilBag(t *testing.T) {
	var b *bag.Bag[card]
	for range 2 {
		if n := b.Len(); n != 0 {
			t.Errorf("Len() = %d", n)
		}
		for _, i := range []int{-1, 0, 1} {
			if x, ok := b.At(i); ok || x != (card{}) {
				t.Errorf("At(%d) = %v, %t", i, x, ok)
			}
		}
		if b.Count(card{}) != 0 || b.Drop(card{}) {
			t.Errorf("Count or Drop finds something")
		}
		if b.All() == nil {
			t.Fatalf("All() = nil")
		}
		for i, x := range b.All() {
			t.Errorf("All: %d, %v", i, x)
		}
		if !bag.Same(b, nil) || bag.Same(b, bag.New(byKey)) || bag.Merge(b, bag.New(byKey)) != nil {
			t.Errorf("Same or Merge holds it for a bag")
		}
		b.Put()
		b.Put(card{1, "a"}, card{})
	}
}

// 3.5

// orders are all the orders of a list.
func orders[T any](l []T) [][]T {
	if len(l) == 0 {
		return [][]T{nil}
	}
	var all [][]T
	for i, x := range l {
		for _, rest := range orders(slices.Concat(l[:i], l[i+1:])) {
			all = append(all, append([]T{x}, rest...))
		}
	}
	return all
}

func TestWhateverTheOrder(t *testing.T) {
	things := []int{1, 1, 2, 3, 3, 3}
	want := bag.New(rising, things...)
	for _, l := range orders(things) {
		for cut := range len(l) + 1 {
			b := bag.New(rising, l[:cut]...)
			b.Put(l[cut:]...)
			if !slices.Equal(listed(t, b), things) || !bag.Same(b, want) {
				t.Fatalf("%v, cut at %d: %v", l, cut, listed(t, b))
			}
			one, two := bag.New(rising, l[:cut]...), bag.New(rising, l[cut:]...)
			ab, ba := bag.Merge(one, two), bag.Merge(two, one)
			if !slices.Equal(listed(t, ab), things) || !slices.Equal(listed(t, ba), things) || !bag.Same(ab, ba) {
				t.Fatalf("%v, cut at %d, merged: %v and %v", l, cut, listed(t, ab), listed(t, ba))
			}
		}
	}
}
