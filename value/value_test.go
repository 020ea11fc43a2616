package value_test

import (
	"math"
	"reflect"
	"slices"
	"strings"
	"testing"
	"unsafe"

	"gavotte/api"
	"gavotte/value"
)

const (
	most  = math.MaxInt
	least = math.MinInt
	deep  = 1 << 16
)

func num(n int) api.Value { return api.Value{Kind: api.IsInt, N: n} }

func truth(n int) api.Value { return api.Value{Kind: api.IsBool, N: n} }

func sym(s string) api.Value { return api.Value{Kind: api.IsSym, S: s} }

func tuple(l ...api.Value) api.Value { return api.Value{Kind: api.IsTuple, L: l} }

func kind(k int) api.Type { return api.Type{Kind: k} }

func tupleType(l ...api.Type) api.Type { return api.Type{Kind: api.IsTuple, L: l} }

var (
	anInt  = kind(api.IsInt)
	aBool  = kind(api.IsBool)
	aSym   = kind(api.IsSym)
	sixty4 = strings.Repeat("z", 64)
)

// told is a right value, its type and both of their texts.
type told struct {
	v    api.Value
	t    api.Type
	text string
	name string
}

// rising are right values, each of them less than all behind it.
func rising() []told {
	one := num(1)
	return []told{
		{num(least), anInt, "-9223372036854775808", "int"},
		{num(-10), anInt, "-10", "int"},
		{num(-9), anInt, "-9", "int"},
		{num(0), anInt, "0", "int"},
		{num(1), anInt, "1", "int"},
		{num(2), anInt, "2", "int"},
		{num(10), anInt, "10", "int"},
		{num(most), anInt, "9223372036854775807", "int"},
		{truth(0), aBool, "false", "bool"},
		{truth(1), aBool, "true", "bool"},
		{sym("a"), aSym, "'a", "sym"},
		{sym("a0"), aSym, "'a0", "sym"},
		{sym("a00"), aSym, "'a00", "sym"},
		{sym("a9"), aSym, "'a9", "sym"},
		{sym("aa"), aSym, "'aa", "sym"},
		{sym("abcdefghijklmno9"), aSym, "'abcdefghijklmno9", "sym"},
		{sym("b"), aSym, "'b", "sym"},
		{sym("false"), aSym, "'false", "sym"},
		{sym("if"), aSym, "'if", "sym"},
		{sym("zzzzzzzzzzzzzzzz"), aSym, "'zzzzzzzzzzzzzzzz", "sym"},
		{tuple(num(least)), tupleType(anInt), "(-9223372036854775808,)", "(int,)"},
		{tuple(num(1)), tupleType(anInt), "(1,)", "(int,)"},
		{tuple(one, num(-1)), tupleType(anInt, anInt), "(1, -1)", "(int, int)"},
		{tuple(one, one), tupleType(anInt, anInt), "(1, 1)", "(int, int)"},
		{tuple(one, one, one), tupleType(anInt, anInt, anInt), "(1, 1, 1)", "(int, int, int)"},
		{tuple(one, one, one, one), tupleType(anInt, anInt, anInt, anInt), "(1, 1, 1, 1)", "(int, int, int, int)"},
		{tuple(one, num(2)), tupleType(anInt, anInt), "(1, 2)", "(int, int)"},
		{tuple(one, truth(0)), tupleType(anInt, aBool), "(1, false)", "(int, bool)"},
		{tuple(one, sym("a")), tupleType(anInt, aSym), "(1, 'a)", "(int, sym)"},
		{tuple(one, tuple(one)), tupleType(anInt, tupleType(anInt)), "(1, (1,))", "(int, (int,))"},
		{tuple(num(2)), tupleType(anInt), "(2,)", "(int,)"},
		{tuple(truth(1)), tupleType(aBool), "(true,)", "(bool,)"},
		{tuple(sym("a"), truth(0), num(3)), tupleType(aSym, aBool, anInt), "('a, false, 3)", "(sym, bool, int)"},
		{tuple(sym("b")), tupleType(aSym), "('b,)", "(sym,)"},
		{tuple(tuple(one)), tupleType(tupleType(anInt)), "((1,),)", "((int,),)"},
		{tuple(tuple(one), one), tupleType(tupleType(anInt), anInt), "((1,), 1)", "((int,), int)"},
		{tuple(tuple(one), tuple(sym("a"), num(2))), tupleType(tupleType(anInt), tupleType(aSym, anInt)), "((1,), ('a, 2))", "((int,), (sym, int))"},
		{tuple(tuple(one, one)), tupleType(tupleType(anInt, anInt)), "((1, 1),)", "((int, int),)"},
		{tuple(tuple(tuple(one)), num(7)), tupleType(tupleType(tupleType(anInt)), anInt), "(((1,),), 7)", "(((int,),), int)"},
		{tuple(tuple(tuple(one, sym("x")))), tupleType(tupleType(tupleType(anInt, aSym))), "(((1, 'x),),)", "(((int, sym),),)"},
	}
}

// nested is a value that stands in so many tuples within one another.
func nested(v api.Value, tuples int) api.Value {
	for range tuples {
		v = tuple(v)
	}
	return v
}

func nestedType(t api.Type, tuples int) api.Type {
	for range tuples {
		t = tupleType(t)
	}
	return t
}

// wrong are values that are not right: by themselves, or by what is in them.
func wrong() []api.Value {
	by := []api.Value{
		{Kind: -1}, {Kind: 4}, {Kind: least}, {Kind: most}, {Kind: 4, N: 1}, {Kind: -1, S: "a"}, {Kind: 4, L: []api.Value{num(1)}},
		{Kind: api.IsInt, S: "a"}, {Kind: api.IsInt, N: 1, S: " "}, {Kind: api.IsInt, L: []api.Value{num(1)}},
		truth(2), truth(-1), truth(most), truth(least),
		{Kind: api.IsBool, N: 1, S: "a"}, {Kind: api.IsBool, N: 1, L: []api.Value{num(1)}},
		sym(""), sym("A"), sym("9"), sym("'a"), sym("a b"), sym("abcdefghijklmnopq"), sym("é"),
		{Kind: api.IsSym, S: "a", N: 1}, {Kind: api.IsSym, S: "a", N: -1}, {Kind: api.IsSym, S: "a", L: []api.Value{num(1)}},
		tuple(), {Kind: api.IsTuple, L: []api.Value{}},
		{Kind: api.IsTuple, N: 1, L: []api.Value{num(1)}}, {Kind: api.IsTuple, N: -1, L: []api.Value{num(1)}}, {Kind: api.IsTuple, S: "a", L: []api.Value{num(1)}},
		tuple(num(1), num(2), num(3), num(4), num(5)),
		{Kind: api.IsTuple, L: make([]api.Value, 1<<12)},
	}
	l := slices.Clone(by)
	for _, v := range by {
		l = append(l, tuple(v), tuple(num(1), num(2), num(3), v), tuple(tuple(sym("a"), v)), tuple(tuple(tuple(v))))
	}
	for _, v := range []api.Value{num(1), truth(1), sym("a")} {
		l = append(l, nested(v, 4), nested(v, 5), nested(v, deep), tuple(v, nested(v, 3)), tuple(tuple(v), tuple(v, nested(v, 2))))
	}
	return l
}

// wrongTypes are types that are not right.
func wrongTypes() []api.Type {
	by := []api.Type{
		kind(-1), kind(4), kind(least), kind(most), {Kind: 4, L: []api.Type{anInt}},
		{Kind: api.IsInt, L: []api.Type{anInt}}, {Kind: api.IsBool, L: []api.Type{anInt}}, {Kind: api.IsSym, L: []api.Type{anInt}},
		tupleType(), {Kind: api.IsTuple, L: []api.Type{}}, tupleType(anInt, anInt, anInt, anInt, anInt), {Kind: api.IsTuple, L: make([]api.Type, 1<<12)},
	}
	l := slices.Clone(by)
	for _, t := range by {
		l = append(l, tupleType(t), tupleType(anInt, aBool, aSym, t), tupleType(tupleType(aSym, t)), tupleType(tupleType(tupleType(t))))
	}
	for _, t := range []api.Type{anInt, aBool, aSym} {
		l = append(l, nestedType(t, 4), nestedType(t, 5), nestedType(t, deep), tupleType(t, nestedType(t, 3)), tupleType(tupleType(t), tupleType(t, nestedType(t, 2))))
	}
	return l
}

// alike tells, apart from the program, whether two values are: lists without elements are one.
func alike(a, b api.Value) bool {
	return a.Kind == b.Kind && a.N == b.N && a.S == b.S && slices.EqualFunc(a.L, b.L, alike)
}

func typesAlike(a, b api.Type) bool {
	return a.Kind == b.Kind && slices.EqualFunc(a.L, b.L, typesAlike)
}

// roomy is a value alike whose lists have spare room, with something in it.
func roomy(v api.Value) api.Value {
	l := make([]api.Value, 0, len(v.L)+2)
	for _, item := range v.L {
		l = append(l, roomy(item))
	}
	full := l[:cap(l)]
	full[len(l)], full[len(l)+1] = num(77), tuple(num(88))
	v.L = l
	return v
}

// spoil writes into all of a value's lists, spare room included.
func spoil(v api.Value) {
	for _, item := range v.L {
		spoil(item)
	}
	for i := range v.L[:cap(v.L)] {
		v.L[:cap(v.L)][i] = sym("spoilt")
	}
}

func spoilType(t api.Type) {
	for _, item := range t.L {
		spoilType(item)
	}
	for i := range t.L[:cap(t.L)] {
		t.L[:cap(t.L)][i] = kind(99)
	}
}

// 2.1

func TestName(t *testing.T) {
	for _, s := range []string{"a", "z", "m", "a0", "z9", "az", "ab0cd9", "if", "true", "never", "abcdefghijklmnop", "a123456789012345", "zzzzzzzzzzzzzzzz"} {
		if !value.Name(s) {
			t.Errorf("Name(%q) = false", s)
		}
	}
	for _, s := range []string{"", "0", "9a", "0a", "A", "aB", "a_b", "_", "_a", "a ", " a", "a b", "a-b", "'a", "a'", "a.b", "é", "aé", "a٣", "a\x00", "\x00a", "a\xff", "a\n", "abcdefghijklmnopq", "abcdefghijklmnopé", sixty4, strings.Repeat("a", 1<<20)} {
		if value.Name(s) {
			t.Errorf("Name(%.20q) = true", s)
		}
	}
}

func TestNameByteByByte(t *testing.T) {
	for i := range 256 {
		c := string([]byte{byte(i)})
		first := strings.Contains("abcdefghijklmnopqrstuvwxyz", c)
		later := first || strings.Contains("0123456789", c)
		if value.Name(c) != first || value.Name(c+"a") != first {
			t.Errorf("Name of the first byte %q", c)
		}
		if value.Name("a"+c) != later || value.Name("a"+c+"b") != later || value.Name("abcdefghijklmno"+c) != later {
			t.Errorf("Name of a later byte %q", c)
		}
	}
}

func TestRight(t *testing.T) {
	for _, c := range rising() {
		if !value.Right(c.v) || !value.Right(roomy(c.v)) {
			t.Errorf("Right(%v) = false", c.v)
		}
	}
	for _, v := range []api.Value{{}, nested(num(1), 1), nested(num(1), 2), nested(num(1), 3), tuple(nested(sym("a"), 2), nested(num(1), 2), num(1), nested(truth(0), 1))} {
		if !value.Right(v) {
			t.Errorf("Right(%v) = false", v)
		}
	}
	for i, v := range wrong() {
		if value.Right(v) {
			t.Errorf("Right of the wrong value %d = true", i)
		}
	}
}

func TestTypeRight(t *testing.T) {
	for _, c := range rising() {
		if !value.TypeRight(c.t) {
			t.Errorf("TypeRight(%v) = false", c.t)
		}
	}
	for _, x := range []api.Type{{}, {Kind: api.IsSym, L: []api.Type{}}, nestedType(aBool, 3), tupleType(nestedType(aSym, 2), nestedType(anInt, 2), aBool, nestedType(aBool, 1))} {
		if !value.TypeRight(x) {
			t.Errorf("TypeRight(%v) = false", x)
		}
	}
	for i, x := range wrongTypes() {
		if value.TypeRight(x) {
			t.Errorf("TypeRight of the wrong type %d = true", i)
		}
	}
}

func TestTypeOf(t *testing.T) {
	for _, c := range rising() {
		got := value.TypeOf(c.v)
		if !typesAlike(got, c.t) || !value.TypeRight(got) {
			t.Errorf("TypeOf(%v) = %v, want %v", c.v, got, c.t)
		}
		spoilType(got)
		if again := value.TypeOf(c.v); !typesAlike(again, c.t) {
			t.Errorf("TypeOf(%v) = %v behind a write into an earlier answer", c.v, again)
		}
	}
	for i, v := range wrong() {
		if got := value.TypeOf(v); got.Kind != 0 || got.L != nil {
			t.Errorf("TypeOf of the wrong value %d = %v", i, got)
		}
	}
}

// TestTypeOfSharesNothing: no two lists of one answer share memory, even where the items of the value do.
func TestTypeOfSharesNothing(t *testing.T) {
	pair := tuple(num(1), sym("a"))
	got := value.TypeOf(tuple(pair, pair))
	got.L[0].L[0] = aBool
	if want := tupleType(tupleType(aBool, aSym), tupleType(anInt, aSym)); !typesAlike(got, want) {
		t.Errorf("TypeOf answered lists that share memory: %v", got)
	}
}

func TestSame(t *testing.T) {
	l := wrong()
	for _, c := range rising() {
		l = append(l, c.v)
	}
	l = append(l, nested(num(1), deep-1), tuple(num(1), num(2), num(3), num(4), num(5), num(6)), api.Value{Kind: 4, N: 2}, api.Value{Kind: 4, N: 1, S: "a"})
	for i, a := range l {
		if !value.Same(a, roomy(a)) {
			t.Errorf("Same of value %d and one alike = false", i)
		}
		for k, b := range l {
			if got, want := value.Same(a, b), alike(a, b); got != want {
				t.Errorf("Same of values %d and %d = %t", i, k, got)
			}
		}
	}
	if empty := []api.Value{}; !value.Same(api.Value{Kind: 7, L: empty}, api.Value{Kind: 7}) || !value.Same(tuple(num(1)), tuple(api.Value{N: 1, L: empty})) {
		t.Errorf("Same holds nil for another list than one without elements")
	}
}

func TestSameType(t *testing.T) {
	l := wrongTypes()
	for _, c := range rising() {
		l = append(l, c.t)
	}
	l = append(l, nestedType(anInt, deep-1), tupleType(anInt, anInt, anInt, anInt, anInt, anInt), api.Type{Kind: 4, L: []api.Type{aBool}})
	for i, a := range l {
		for k, b := range l {
			if got, want := value.SameType(a, b), typesAlike(a, b); got != want {
				t.Errorf("SameType of types %d and %d = %t", i, k, got)
			}
		}
	}
	if empty := []api.Type{}; !value.SameType(api.Type{Kind: 7, L: empty}, kind(7)) || !value.SameType(tupleType(anInt), tupleType(api.Type{L: empty})) {
		t.Errorf("SameType holds nil for another list than one without elements")
	}
}

func TestCopy(t *testing.T) {
	l := wrong()
	for _, c := range rising() {
		l = append(l, c.v)
	}
	for i, v := range l {
		from := roomy(v)
		one := value.Copy(from)
		if !alike(one, v) {
			t.Fatalf("Copy of value %d isn't alike", i)
		}
		spoil(one)
		if !reflect.DeepEqual(from, roomy(v)) {
			t.Fatalf("what is written into a Copy of value %d is seen in the value", i)
		}
		two := value.Copy(from)
		spoil(from)
		if !alike(two, v) {
			t.Fatalf("what is written into value %d is seen in its Copy", i)
		}
	}
}

// TestCopySharesNothing: neither a text with the value, nor two lists of one answer with each other.
func TestCopySharesNothing(t *testing.T) {
	v := sym(strings.Repeat("a", 12))
	if c := value.Copy(v); unsafe.StringData(c.S) == unsafe.StringData(v.S) {
		t.Errorf("Copy shares the text of a symbol")
	}
	pair := tuple(num(1), v)
	got := value.Copy(tuple(pair, pair))
	got.L[0].L[0] = num(2)
	if want := tuple(tuple(num(2), v), tuple(num(1), v)); !alike(got, want) {
		t.Errorf("Copy answered lists that share memory: %v", got)
	}
}

// 2.2

func TestCmp(t *testing.T) {
	l := rising()
	for i, a := range l {
		for k, b := range l {
			want := 0
			if i < k {
				want = -1
			} else if i > k {
				want = 1
			}
			if got := value.Cmp(a.v, roomy(b.v)); got != want {
				t.Errorf("Cmp(%v, %v) = %d, want %d", a.v, b.v, got, want)
			}
		}
	}
}

func TestCmpOfWrongValues(t *testing.T) {
	right, bad := rising(), wrong()
	for i, v := range bad {
		for _, c := range right {
			if value.Cmp(v, c.v) != 0 || value.Cmp(c.v, v) != 0 {
				t.Errorf("Cmp of the wrong value %d and %v", i, c.v)
			}
		}
		for k, w := range bad {
			if value.Cmp(v, w) != 0 {
				t.Errorf("Cmp of the wrong values %d and %d", i, k)
			}
		}
	}
}

// 2.3

func TestParts(t *testing.T) {
	inner := tuple(num(2), truth(1))
	middle := tuple(inner, sym("b"))
	for _, c := range []struct {
		v    api.Value
		want []api.Value
	}{
		{num(7), []api.Value{num(7)}},
		{truth(0), []api.Value{truth(0)}},
		{sym("a"), []api.Value{sym("a")}},
		{tuple(num(1), sym("a")), []api.Value{tuple(num(1), sym("a")), num(1), sym("a")}},
		{tuple(num(3), num(3), num(1)), []api.Value{tuple(num(3), num(3), num(1)), num(3), num(3), num(1)}},
		{tuple(num(1), middle, num(3)), []api.Value{tuple(num(1), middle, num(3)), num(1), middle, inner, num(2), truth(1), sym("b"), num(3)}},
		{tuple(inner, inner), []api.Value{tuple(inner, inner), inner, num(2), truth(1), inner, num(2), truth(1)}},
	} {
		all := value.Parts(c.v)
		if got := slices.Collect(all); !slices.EqualFunc(got, c.want, alike) {
			t.Errorf("Parts(%v) = %v, want %v", c.v, got, c.want)
		}
		if again := slices.Collect(all); !slices.EqualFunc(again, c.want, alike) {
			t.Errorf("Parts(%v), gone over again, = %v", c.v, again)
		}
		for n := range len(c.want) {
			var got []api.Value
			for p := range all {
				got = append(got, p)
				if len(got) > n {
					break
				}
			}
			if !slices.EqualFunc(got, c.want[:n+1], alike) {
				t.Errorf("the first %d Parts(%v) = %v", n+1, c.v, got)
			}
		}
	}
}

func TestPartsOfWrongValues(t *testing.T) {
	for i, v := range wrong() {
		all := value.Parts(v)
		if all == nil {
			t.Fatalf("Parts of the wrong value %d = nil", i)
		}
		for p := range all {
			t.Errorf("Parts of the wrong value %d handed out %v", i, p)
			break
		}
	}
}

// TestPartsShareNothing: what is written into the value, or into what was handed out, is not seen in what comes.
func TestPartsShareNothing(t *testing.T) {
	fresh := func() api.Value { return roomy(tuple(tuple(tuple(num(1)), num(2)), tuple(sym("a")))) }
	want := slices.Collect(value.Parts(fresh()))
	v := fresh()
	all := value.Parts(v)
	spoil(v)
	for range 2 {
		i := 0
		for p := range all {
			if i >= len(want) || !alike(p, want[i]) {
				t.Errorf("part %d is %v", i, p)
			}
			i++
			spoil(p)
		}
		if i != len(want) {
			t.Errorf("%d parts, want %d", i, len(want))
		}
	}
	bad := fresh()
	bad.L[0].L[1] = truth(2)
	none := value.Parts(bad)
	bad.L[0].L[1] = truth(1)
	for p := range none {
		t.Errorf("of a value that was wrong Parts handed out %v", p)
	}
	kept := fresh()
	for p := range value.Parts(kept) {
		spoil(p)
	}
	if !reflect.DeepEqual(kept, fresh()) {
		t.Errorf("what is written into Parts is seen in the value: %v", kept)
	}
}

// 2.4

func TestText(t *testing.T) {
	for _, c := range rising() {
		if got := value.Text(c.v); got != c.text {
			t.Errorf("Text(%v) = %q, want %q", c.v, got, c.text)
		}
	}
	for i, v := range wrong() {
		if got := value.Text(v); got != "" {
			t.Errorf("Text of the wrong value %d = %.20q", i, got)
		}
	}
}

func TestTypeText(t *testing.T) {
	for _, c := range rising() {
		if got := value.TypeText(c.t); got != c.name {
			t.Errorf("TypeText(%v) = %q, want %q", c.t, got, c.name)
		}
	}
	for i, x := range wrongTypes() {
		if got := value.TypeText(x); got != "" {
			t.Errorf("TypeText of the wrong type %d = %.20q", i, got)
		}
	}
}

// 2.5

// many are right values of all kinds, and tuples of these, up to three within one another.
func many() []api.Value {
	plain := []api.Value{num(least), num(-1), num(0), num(1), num(11), truth(0), truth(1), sym("a"), sym("a1"), sym("true")}
	l := slices.Clone(plain)
	inner := plain
	for range 3 {
		var outer []api.Value
		for i, a := range inner {
			b, c := plain[i%len(plain)], inner[(i*7+3)%len(inner)]
			outer = append(outer, tuple(a), tuple(a, b), tuple(b, a), tuple(a, c), tuple(a, c, b), tuple(b, c, a, a))
		}
		l = append(l, outer[:min(len(outer), 200)]...)
		inner = outer[:60]
	}
	return l
}

func TestOneOrder(t *testing.T) {
	l := many()
	for _, a := range l {
		if !value.Right(a) {
			t.Fatalf("%v isn't right", a)
		}
		for _, b := range l {
			c := value.Cmp(a, b)
			if c != -value.Cmp(b, a) {
				t.Errorf("Cmp of %v and %v: %d, the other way %d", a, b, c, value.Cmp(b, a))
			}
			if (c == 0) != value.Same(a, b) || (c == 0) != (value.Text(a) == value.Text(b)) {
				t.Errorf("%v and %v: Cmp %d, Same %t, %q and %q", a, b, c, value.Same(a, b), value.Text(a), value.Text(b))
			}
		}
	}
	slices.SortFunc(l, value.Cmp)
	for i, a := range l {
		for _, b := range l[i:] {
			if value.Cmp(a, b) > 0 {
				t.Errorf("%v and %v do not stand in one order", a, b)
			}
		}
	}
}

// TestArgumentsStay: no call changes what it is handed.
func TestArgumentsStay(t *testing.T) {
	for _, c := range rising() {
		a, b := roomy(c.v), roomy(tuple(c.v))
		value.Right(a)
		value.TypeOf(a)
		value.Same(a, b)
		value.Cmp(a, b)
		value.Copy(a)
		value.Text(a)
		for range value.Parts(a) {
		}
		if !reflect.DeepEqual(a, roomy(c.v)) || !reflect.DeepEqual(b, roomy(tuple(c.v))) {
			t.Errorf("a call changed %v", c.v)
		}
	}
}
