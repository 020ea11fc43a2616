package ast_test

import (
	"math"
	"reflect"
	"slices"
	"strconv"
	"strings"
	"testing"
	"unsafe"

	"gavotte/api"
	"gavotte/ast"
	"gavotte/value"
)

const (
	most  = math.MaxInt
	least = math.MinInt
	deep  = 1 << 16
)

// language is all words of the language, as the document lists them.
const language = "atomic coupled root in out var ta emit int bool sym ext con part link rule add drop tie cut if then else and or not true false count has sum least elapsed"

func op(op int, args ...api.Expr) api.Expr { return api.Expr{Op: op, Args: args} }

func num(n int) api.Expr { return api.Expr{Op: api.OpInt, N: n} }

func sym(s string) api.Expr { return api.Expr{Op: api.OpSym, Name: s} }

func variable(s string) api.Expr { return api.Expr{Op: api.OpVar, Name: s} }

func of(part, name string) api.Expr { return api.Expr{Op: api.OpOf, Name: part, Sub: name} }

func asked(op int, port string, args ...api.Expr) api.Expr {
	return api.Expr{Op: op, Name: port, Args: args}
}

func item(n int, e api.Expr) api.Expr {
	return api.Expr{Op: api.OpItem, N: n, Args: []api.Expr{e}}
}

func tuple(l ...api.Expr) api.Expr { return op(api.OpTuple, l...) }

// nested is an expression of so great a nest: a variable, and around it what is negated, again and again.
func nested(nest int) api.Expr {
	e := variable("x")
	for range nest - 1 {
		e = op(api.OpNeg, e)
	}
	return e
}

// rightOnes are right expressions of all kinds.
func rightOnes() []api.Expr {
	a, b, c := variable("a"), variable("b"), variable("c")
	return []api.Expr{
		{}, num(0), num(1), num(most),
		op(api.OpTrue), op(api.OpFalse), op(api.OpElapsed),
		sym("a"), sym("if"), sym("true"), sym("abcdefghijklmno9"),
		a, variable("a0"), variable("abcdefghijklmno9"), variable("never"),
		of("a", "b"), of("p9", "abcdefghijklmno9"),
		asked(api.OpCount, "p"), asked(api.OpHas, "p"), asked(api.OpSum, "p"), asked(api.OpLeast, "p", num(3)),
		tuple(a), tuple(a, b), tuple(a, b, c), tuple(a, b, c, num(1)), tuple(tuple(tuple(tuple(tuple(a))))),
		item(0, a), item(1, a), item(2, a), item(3, a),
		op(api.OpNeg, a), op(api.OpNot, a),
		op(api.OpAdd, a, b), op(api.OpSub, a, b), op(api.OpMul, a, b), op(api.OpDiv, a, b), op(api.OpMod, a, b),
		op(api.OpEq, a, b), op(api.OpLt, a, b), op(api.OpLe, a, b), op(api.OpAnd, a, b), op(api.OpOr, a, b),
		op(api.OpIf, a, b, c),
		op(api.OpAdd, a, op(api.OpMul, b, c)),
		op(api.OpIf, op(api.OpNot, asked(api.OpHas, "p")), tuple(item(0, of("a", "b")), sym("x")), asked(api.OpLeast, "p", tuple(num(1), sym("y")))),
		nested(api.MaxNest),
		op(api.OpOr, nested(19), nested(19)),
	}
}

// wrongOnes are expressions that are not right, of which calls that take any expression still tell.
func wrongOnes() []api.Expr {
	a := variable("a")
	return []api.Expr{
		{Op: -1}, {Op: 26}, {Op: least, N: least}, {Op: most, N: most}, op(26, a, a), op(-1, a),
		num(-1), {Op: api.OpInt, Name: "a", Sub: "b", Args: []api.Expr{a, num(-5)}},
		sym(""), sym("A"), variable("if"), of("", ""), of("é", "\xff"), op(api.OpTuple), tuple(a, a, a, a, a, a),
		item(4, a), item(-1, a), op(api.OpIf, a), op(api.OpNeg), op(api.OpAdd, a, a, a),
		op(api.OpTrue, op(api.OpFalse, op(99, a), a), a, api.Expr{}, a),
		nested(api.MaxNest + 1), nested(700),
		variable(strings.Repeat("long", 1000)),
	}
}

func anyOnes() []api.Expr { return append(rightOnes(), wrongOnes()...) }

// alike tells, apart from the program, whether two expressions are: lists without elements are one.
func alike(a, b api.Expr) bool {
	return a.Op == b.Op && a.N == b.N && a.Name == b.Name && a.Sub == b.Sub && slices.EqualFunc(a.Args, b.Args, alike)
}

// expected are an expression and all within it, listed apart from the program.
func expected(e api.Expr) []api.Expr {
	l := []api.Expr{e}
	for _, arg := range e.Args {
		l = append(l, expected(arg)...)
	}
	return l
}

// roomy is an expression alike whose lists have spare room, with something in it.
func roomy(e api.Expr) api.Expr {
	l := make([]api.Expr, 0, len(e.Args)+2)
	for _, arg := range e.Args {
		l = append(l, roomy(arg))
	}
	full := l[:cap(l)]
	full[len(l)], full[len(l)+1] = num(77), op(api.OpNot, num(88))
	e.Args = l
	return e
}

// spoil writes into all of an expression's lists, spare room included.
func spoil(e api.Expr) {
	for _, arg := range e.Args {
		spoil(arg)
	}
	for i := range e.Args[:cap(e.Args)] {
		e.Args[:cap(e.Args)][i] = sym("spoilt")
	}
}

// dice are numbers below n that look like any, the same ones each time.
func dice(seed uint64) func(n int) int {
	return func(n int) int {
		seed = seed*6364136223846793005 + 1442695040888963407
		return int(seed>>33) % n
	}
}

// thrown is an expression of any Ops and fields, of at most such a nest.
func thrown(d func(n int) int, nest int) api.Expr {
	names := []string{"", "a", "b9", "if", "A"}
	e := api.Expr{Op: d(28) - 1, N: d(6) - 1, Name: names[d(5)], Sub: names[d(5)]}
	if nest > 1 {
		for range d(5) {
			e.Args = append(e.Args, thrown(d, nest-1-d(2)))
		}
	}
	return e
}

// show is an expression told in short, for a failed test.
func show(e api.Expr) string {
	s := strconv.Itoa(e.Op) + "." + strconv.Itoa(e.N) + "." + e.Name + "." + e.Sub + "("
	for _, arg := range e.Args {
		s += show(arg)
	}
	return s[:min(len(s), 200)] + ")"
}

// 9.1

func TestReserved(t *testing.T) {
	words := strings.Fields(language)
	if len(words) != 33 {
		t.Fatalf("%d words", len(words))
	}
	for _, w := range words {
		if !ast.Reserved(w) || !ast.Reserved(strings.Clone(w)) {
			t.Errorf("Reserved(%q) = false", w)
		}
		near := []string{w + "s", w + "0", "a" + w, w + " ", " " + w, strings.ToUpper(w), strings.ToUpper(w[:1]) + w[1:], w[:len(w)-1], w[1:], w + "\x00", w + w, w + "\n", "'" + w}
		for _, s := range near {
			if got := ast.Reserved(s); got != slices.Contains(words, s) {
				t.Errorf("Reserved(%q) = %t", s, got)
			}
		}
	}
	for _, s := range []string{"", " ", "a", "x", "model", "program", "never", "emits", "ins", "always", "min", "max", "xor", "name", language, strings.Repeat("if", 1<<20), "\xff", "é"} {
		if ast.Reserved(s) {
			t.Errorf("Reserved(%.20q) = true", s)
		}
	}
}

func TestReservedOfShortTexts(t *testing.T) {
	words := strings.Fields(language)
	const letters = "abcdefghijklmnopqrstuvwxyz09"
	for _, a := range letters {
		for _, b := range letters {
			for _, c := range " " + letters {
				s := strings.TrimSpace(string([]rune{a, b, c}))
				if got := ast.Reserved(s); got != slices.Contains(words, s) {
					t.Errorf("Reserved(%q) = %t", s, got)
				}
			}
		}
	}
}

func TestName(t *testing.T) {
	for _, s := range []string{"a", "z", "a0", "never", "ifs", "int0", "trues", "elapse", "ins", "abcdefghijklmnop", "a123456789012345"} {
		if !ast.Name(s) {
			t.Errorf("Name(%q) = false", s)
		}
	}
	for _, s := range append(strings.Fields(language), "", "A", "If", "9a", "a_b", " a", "a ", "a.b", "'a", "é", "a\x00", "abcdefghijklmnopq", strings.Repeat("a", 1<<20)) {
		if ast.Name(s) {
			t.Errorf("Name(%.20q) = true", s)
		}
	}
}

func TestNameOfShortTexts(t *testing.T) {
	words := strings.Fields(language)
	for _, a := range "az09AZ'-if_ \xff" {
		for _, b := range "afnotrsz09AZ " {
			for _, c := range []string{"", "d", "f", "s", "t", "0", " ", "D"} {
				s := string([]rune{a, b}) + c
				if got, want := ast.Name(s), value.Name(s) && !slices.Contains(words, s); got != want {
					t.Errorf("Name(%q) = %t", s, got)
				}
			}
		}
	}
}

func TestNest(t *testing.T) {
	x := variable("x")
	for i, c := range []struct {
		e    api.Expr
		want int
	}{
		{api.Expr{}, 1}, {num(7), 1}, {api.Expr{Args: []api.Expr{}}, 1}, {api.Expr{Op: 99, N: -1}, 1},
		{op(api.OpNeg, x), 2}, {op(api.OpAdd, x, x), 2}, {tuple(x, x, x, x), 2},
		{op(api.OpAdd, x, op(api.OpMul, x, x)), 3}, {op(api.OpAdd, op(api.OpMul, x, x), x), 3},
		{op(api.OpIf, x, nested(5), nested(3)), 6}, {op(api.OpIf, nested(5), x, nested(3)), 6}, {op(api.OpIf, nested(3), nested(2), nested(5)), 6},
		{op(-5, nested(19), nested(20), nested(19)), 21}, {op(api.OpAdd, nested(20), nested(20)), 21},
		{api.Expr{Args: make([]api.Expr, 1<<16)}, 2},
		{nested(20), 20}, {nested(21), 21}, {nested(999), 999}, {nested(1000), 1000}, {nested(1001), 1001}, {nested(1002), 1001}, {nested(5000), 1001}, {nested(deep), 1001},
		{op(api.OpAdd, nested(998), nested(999)), 1000}, {op(api.OpAdd, nested(998), nested(1000)), 1001}, {op(api.OpAdd, nested(2000), nested(998)), 1001}, {op(api.OpAdd, nested(1), nested(deep-1)), 1001},
	} {
		if got := ast.Nest(c.e); got != c.want {
			t.Errorf("Nest of expression %d = %d, want %d", i, got, c.want)
		}
	}
}

// TestNestOfOneThatIsTooDeep: the answer is known at the first nest of 1001, so nothing behind it costs anything.
func TestNestOfOneThatIsTooDeep(t *testing.T) {
	e := variable("x")
	for range 2000 {
		e = op(api.OpAdd, e, e)
	}
	if got := ast.Nest(e); got != 1001 {
		t.Errorf("Nest = %d", got)
	}
	if ast.ExprRight(e) {
		t.Errorf("ExprRight = true")
	}
}

// 9.2

func TestWalk(t *testing.T) {
	a, b, c := variable("a"), variable("b"), variable("c")
	product := op(api.OpMul, b, c)
	sum := op(api.OpAdd, a, product)
	choice := op(api.OpIf, op(api.OpNot, asked(api.OpHas, "p")), sum, tuple(num(1), item(2, of("d", "e"))))
	for _, w := range []struct {
		e    api.Expr
		want []api.Expr
	}{
		{num(3), []api.Expr{num(3)}},
		{sum, []api.Expr{sum, a, product, b, c}},
		{op(api.OpSub, a, a), []api.Expr{op(api.OpSub, a, a), a, a}},
		{choice, []api.Expr{choice, choice.Args[0], asked(api.OpHas, "p"), sum, a, product, b, c, choice.Args[2], num(1), item(2, of("d", "e")), of("d", "e")}},
	} {
		if got := slices.Collect(ast.Walk(w.e)); !slices.EqualFunc(got, w.want, alike) {
			t.Errorf("Walk of %s = %v", show(w.e), got)
		}
	}
}

func TestWalkOfAny(t *testing.T) {
	l, d := anyOnes(), dice(1)
	for range 300 {
		l = append(l, thrown(d, 7))
	}
	for _, e := range l {
		want := expected(e)
		all := ast.Walk(e)
		for range 2 {
			if got := slices.Collect(all); !slices.EqualFunc(got, want, alike) {
				t.Errorf("Walk of %s hands out %d, want %d", show(e), len(got), len(want))
			}
		}
		for n := range min(len(want), 40) {
			var got []api.Expr
			for x := range all {
				if got = append(got, x); len(got) > n {
					break
				}
			}
			if !slices.EqualFunc(got, want[:n+1], alike) {
				t.Errorf("the first %d of Walk of %s", n+1, show(e))
			}
		}
	}
}

// TestWalkOfADeepOne: as deep as may be handed in, and the first ones of it asked for.
func TestWalkOfADeepOne(t *testing.T) {
	n := 0
	for x := range ast.Walk(nested(deep)) {
		if n++; len(x.Args) != 1 {
			t.Errorf("expression %d has %d Args", n, len(x.Args))
		}
		if n == 20 {
			break
		}
	}
	if n != 20 {
		t.Errorf("%d expressions", n)
	}
	n = 0
	for range ast.Walk(nested(1500)) {
		n++
	}
	if n != 1500 {
		t.Errorf("%d expressions, want 1500", n)
	}
}

// TestWalkSharesNothing: what is written into the expression, or into what was handed out, is not seen in what comes.
func TestWalkSharesNothing(t *testing.T) {
	for _, plain := range anyOnes() {
		want := expected(plain)
		e := roomy(plain)
		for x := range ast.Walk(e) {
			spoil(x)
		}
		if !reflect.DeepEqual(e, roomy(plain)) {
			t.Errorf("what is written into Walk is seen in %s", show(plain))
		}
		all := ast.Walk(e)
		spoil(e)
		for range 2 {
			i := 0
			for x := range all {
				if i >= len(want) || !alike(x, want[i]) {
					t.Errorf("expression %d of Walk of %s is %s", i, show(plain), show(x))
				}
				i++
				spoil(x)
			}
			if i != len(want) {
				t.Errorf("%d expressions of Walk of %s", i, show(plain))
			}
		}
	}
	twice := tuple(num(1), num(2))
	for x := range ast.Walk(op(api.OpEq, twice, twice)) {
		if x.Op == api.OpEq {
			x.Args[0].Args[0] = num(9)
			if x.Args[1].Args[0].N != 1 {
				t.Errorf("two lists of one answer share memory")
			}
		}
	}
}

// TestTextsAreCopies: an answer does not keep the texts that were handed in.
func TestTextsAreCopies(t *testing.T) {
	e := of(strings.Repeat("a", 9), strings.Repeat("b", 9))
	same := func(x api.Expr) bool {
		return unsafe.StringData(x.Name) == unsafe.StringData(e.Name) || unsafe.StringData(x.Sub) == unsafe.StringData(e.Sub)
	}
	for x := range ast.Walk(e) {
		if same(x) {
			t.Errorf("Walk shares a text")
		}
	}
	for _, x := range ast.Exprs(api.Program{Models: []api.Model{{Ta: []api.Expr{e}}}}) {
		if same(x) {
			t.Errorf("Exprs shares a text")
		}
	}
}

// stood is an expression at its place.
type stood struct {
	at ast.Place
	e  api.Expr
}

func (a stood) alike(b stood) bool { return a.at == b.at && alike(a.e, b.e) }

func exprs(p api.Program) []stood {
	var l []stood
	for at, e := range ast.Exprs(p) {
		l = append(l, stood{at, e})
	}
	return l
}

// mixed is a program that isn't right, in which something stands wherever an expression can.
func mixed() (api.Program, []stood) {
	n := 0
	next := func() api.Expr {
		n += 10
		return op(api.OpAdd, num(n), op(99, num(n+1)))
	}
	e := func(k int) api.Expr { return op(api.OpAdd, num(k), op(99, num(k+1))) }
	set := func() api.Set { return api.Set{Name: "x", E: next()} }
	whole := func(coupled bool) api.Model {
		return api.Model{
			Coupled: coupled,
			Vars:    []api.Set{set(), set()},
			Ta:      []api.Expr{next(), next()},
			Emits:   []api.Emit{{E: next()}, {E: next(), If: []api.Expr{next(), next()}}, {E: next(), If: []api.Expr{next()}}},
			Int:     []api.Set{set()},
			Ext:     []api.Set{set(), set()},
			Own:     []api.Set{set()},
			Parts:   []api.Part{{Name: "a", Model: "b"}},
			Rules:   []api.Rule{{If: next(), Acts: []api.Act{{}}}, {If: next()}},
		}
	}
	var want []stood
	stand := func(model, from int) {
		for _, c := range []struct{ part, item, sum int }{
			{0, 0, 10}, {0, 1, 20}, {1, 0, 30}, {1, 1, 40}, {2, 0, 50}, {2, 1, 60}, {2, 2, 90}, {3, 1, 70}, {3, 1, 80}, {3, 2, 100},
			{4, 0, 110}, {5, 0, 120}, {5, 1, 130}, {6, 0, 140}, {7, 0, 150}, {7, 1, 160},
		} {
			want = append(want, stood{ast.Place{Model: model, Part: c.part, Item: c.item}, e(from + c.sum)})
		}
	}
	p := api.Program{Models: []api.Model{{Name: "none"}, whole(false), {Coupled: true}, whole(true)}}
	stand(1, 0)
	stand(3, 160)
	return p, want
}

func TestExprs(t *testing.T) {
	p, want := mixed()
	if got := exprs(p); !slices.EqualFunc(got, want, stood.alike) {
		t.Errorf("Exprs = %v, want %v", got, want)
	}
	all := ast.Exprs(p)
	for n := range want {
		var got []stood
		for at, e := range all {
			if got = append(got, stood{at, e}); len(got) > n {
				break
			}
		}
		if !slices.EqualFunc(got, want[:n+1], stood.alike) {
			t.Errorf("the first %d of Exprs = %v", n+1, got)
		}
	}
	for i, none := range []api.Program{{}, {Root: "a"}, {Models: []api.Model{}}, {Models: make([]api.Model, 100)}, {Models: []api.Model{{Parts: make([]api.Part, 3), Links: make([]api.Link, 3), Ins: make([]api.Port, 3)}}}} {
		all := ast.Exprs(none)
		if all == nil {
			t.Fatalf("Exprs of program %d without expressions = nil", i)
		}
		for at := range all {
			t.Errorf("Exprs of program %d without expressions hands out %v", i, at)
		}
	}
}

func TestExprsConstants(t *testing.T) {
	got := []int{ast.InVars, ast.InTa, ast.InEmits, ast.InIfs, ast.InInt, ast.InExt, ast.InOwn, ast.InRules}
	if !slices.Equal(got, []int{0, 1, 2, 3, 4, 5, 6, 7}) {
		t.Errorf("the parts are %v", got)
	}
}

// TestExprsShareNothing: what is written into the program, or into what was handed out, is not seen in what comes.
func TestExprsShareNothing(t *testing.T) {
	p, want := mixed()
	for _, e := range ast.Exprs(p) {
		spoil(e)
	}
	if kept, _ := mixed(); !reflect.DeepEqual(p, kept) {
		t.Errorf("what is written into Exprs is seen in the program")
	}
	all := ast.Exprs(p)
	for i := range p.Models {
		spoilModel(&p.Models[i])
	}
	for range 2 {
		i := 0
		for at, e := range all {
			if i >= len(want) || !want[i].alike(stood{at, e}) {
				t.Errorf("expression %d of Exprs is %v at %v", i, e, at)
			}
			i++
			spoil(e)
		}
		if i != len(want) {
			t.Errorf("%d expressions, want %d", i, len(want))
		}
	}
}

func spoilModel(m *api.Model) {
	for _, l := range [][]api.Set{m.Vars, m.Int, m.Ext, m.Own} {
		for i := range l {
			spoil(l[i].E)
			l[i] = api.Set{}
		}
	}
	for i := range m.Emits {
		spoil(m.Emits[i].E)
		for k := range m.Emits[i].If {
			spoil(m.Emits[i].If[k])
			m.Emits[i].If[k] = api.Expr{}
		}
		m.Emits[i] = api.Emit{}
	}
	for i := range m.Ta {
		spoil(m.Ta[i])
		m.Ta[i] = api.Expr{}
	}
	for i := range m.Rules {
		spoil(m.Rules[i].If)
		m.Rules[i] = api.Rule{}
	}
	*m = api.Model{}
}

// 9.3

// depth is how many of what Walk hands out stand within one another, told by how many Args each has.
func depth(e api.Expr) int {
	deepest := 0
	var open []int
	for x := range ast.Walk(e) {
		open = append(open, len(x.Args))
		deepest = max(deepest, len(open))
		for len(open) > 0 && open[len(open)-1] == 0 {
			if open = open[:len(open)-1]; len(open) > 0 {
				open[len(open)-1]--
			}
		}
	}
	return deepest
}

func TestNestIsThatOfWalk(t *testing.T) {
	l, d := anyOnes(), dice(2)
	for range 500 {
		l = append(l, thrown(d, 8))
	}
	l = append(l, nested(1000), op(api.OpAdd, nested(3), nested(999)))
	for _, e := range l {
		if got, want := ast.Nest(e), depth(e); got != want {
			t.Errorf("Nest of %s = %d, want %d", show(e), got, want)
		}
	}
}

func TestWhatStandsInARightOneIsRight(t *testing.T) {
	for _, e := range rightOnes() {
		for x := range ast.Walk(e) {
			if !ast.ExprRight(x) {
				t.Errorf("%s is not right, within %s", show(x), show(e))
			}
		}
	}
	p := fullest()
	n := 0
	for at, e := range ast.Exprs(p) {
		for x := range ast.Walk(e) {
			if n++; !ast.ExprRight(x) {
				t.Errorf("%s at %v is not right", show(x), at)
			}
		}
	}
	if n < 100 {
		t.Errorf("%d expressions in all", n)
	}
}
