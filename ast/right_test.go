package ast_test

import (
	"reflect"
	"slices"
	"strconv"
	"strings"
	"testing"

	"gavotte/api"
	"gavotte/ast"
)

// asks is what the document asks of an expression of one Op: whether its N, Name
// and Sub are to be more than zero ones, and how many Args it has.
type asks struct {
	n, name, sub string
	from, to     int
}

// document is what it says of each Op.
func document(op int) (asks, bool) {
	switch op {
	case 0:
		return asks{n: "from 0 on"}, true
	case 1, 2, 11:
		return asks{}, true
	case 3:
		return asks{name: "any"}, true
	case 4, 7, 8, 9:
		return asks{name: "no word"}, true
	case 5:
		return asks{name: "no word", sub: "no word"}, true
	case 6:
		return asks{from: 1, to: 4}, true
	case 10:
		return asks{name: "no word", from: 1, to: 1}, true
	case 12:
		return asks{n: "0 to 3", from: 1, to: 1}, true
	case 13, 14:
		return asks{from: 1, to: 1}, true
	case 15, 16, 17, 18, 19, 20, 21, 22, 23, 24:
		return asks{from: 2, to: 2}, true
	case 25:
		return asks{from: 3, to: 3}, true
	}
	return asks{}, false
}

func numberFits(asked string, n int) bool {
	return n == 0 || asked == "from 0 on" && n > 0 || asked == "0 to 3" && 0 < n && n <= 3
}

func textFits(asked, s string) bool {
	name := slices.Contains([]string{"a", "b9", "abcdefghijklmnop"}, s)
	switch asked {
	case "any":
		return name || s == "if" || s == "elapsed"
	case "no word":
		return name
	}
	return s == ""
}

func fits(e api.Expr) bool {
	a, known := document(e.Op)
	return known && numberFits(a.n, e.N) && textFits(a.name, e.Name) && textFits(a.sub, e.Sub) && a.from <= len(e.Args) && len(e.Args) <= a.to
}

// TestExprRight holds expressions of all Ops, with all fields, against the document.
func TestExprRight(t *testing.T) {
	texts := []string{"", "a", "b9", "abcdefghijklmnop", "if", "elapsed", "A", "9", "abcdefghijklmnopq", "a b"}
	right := 0
	for _, op := range append([]int{least, most, 99, 1000}, span(-3, 30)...) {
		for _, n := range []int{0, 1, 2, 3, 4, 5, most, -1, -2, least} {
			for _, name := range texts {
				for _, sub := range texts {
					for args := range 7 {
						e := api.Expr{Op: op, N: n, Name: name, Sub: sub, Args: slices.Repeat([]api.Expr{variable("x")}, args)}
						if got := ast.ExprRight(e); got != fits(e) {
							t.Errorf("ExprRight of %s = %t", show(e), got)
						} else if got {
							right++
						}
					}
				}
			}
		}
	}
	if want := 7 + 3 + 5 + 4*3 + 3*3 + 4 + 3 + 4 + 2 + 10 + 1; right != want {
		t.Errorf("%d right ones, want %d", right, want)
	}
}

func span(from, to int) []int {
	var l []int
	for n := from; n <= to; n++ {
		l = append(l, n)
	}
	return l
}

func TestExprRightByLists(t *testing.T) {
	for _, e := range rightOnes() {
		if !ast.ExprRight(e) || !ast.ExprRight(roomy(e)) {
			t.Errorf("ExprRight of %s = false", show(e))
		}
	}
	for _, e := range wrongOnes() {
		if ast.ExprRight(e) {
			t.Errorf("ExprRight of %s = true", show(e))
		}
	}
	for i, e := range []api.Expr{nested(deep), op(api.OpAdd, make([]api.Expr, 1<<16)...), variable(strings.Repeat("a", 1<<24))} {
		if ast.ExprRight(e) {
			t.Errorf("ExprRight of the great one %d = true", i)
		}
	}
}

// TestExprRightWithin: one that isn't right makes all wrong that it stands in, wherever it stands.
func TestExprRightWithin(t *testing.T) {
	a := variable("a")
	around := []func(e api.Expr) api.Expr{
		func(e api.Expr) api.Expr { return op(api.OpNeg, e) },
		func(e api.Expr) api.Expr { return item(3, e) },
		func(e api.Expr) api.Expr { return asked(api.OpLeast, "p", e) },
		func(e api.Expr) api.Expr { return op(api.OpOr, e, a) },
		func(e api.Expr) api.Expr { return op(api.OpOr, a, e) },
		func(e api.Expr) api.Expr { return op(api.OpIf, a, e, a) },
		func(e api.Expr) api.Expr { return op(api.OpIf, a, a, e) },
		func(e api.Expr) api.Expr { return tuple(a, a, a, e) },
		func(e api.Expr) api.Expr { return tuple(a, op(api.OpNot, op(api.OpAnd, a, e))) },
	}
	for i, in := range around {
		if !ast.ExprRight(in(a)) {
			t.Errorf("ExprRight around %d = false", i)
		}
		for _, e := range wrongOnes() {
			if ast.ExprRight(in(e)) {
				t.Errorf("ExprRight of %s = true", show(in(e)))
			}
		}
	}
}

func TestExprRightByNest(t *testing.T) {
	a := variable("a")
	for nest := range 40 {
		want := nest+1 <= 20
		for i, e := range []api.Expr{nested(nest + 1), tuple(a, a, nested(nest)), op(api.OpIf, nested(nest), a, a), op(api.OpAdd, nested(nest/2+1), nested(nest))} {
			if nest > 0 && ast.ExprRight(e) != want {
				t.Errorf("ExprRight of %d with the nest %d = %t", i, nest+1, !want)
			}
		}
	}
}

// sets is a list of so many sets.
func sets(n int) []api.Set {
	return slices.Repeat([]api.Set{{Name: "v", E: op(api.OpAdd, variable("v"), num(1))}}, n)
}

func ports(n int) []api.Port {
	whole := api.Type{Kind: api.IsInt}
	return slices.Repeat([]api.Port{{Name: "p", T: api.Type{Kind: api.IsTuple, L: []api.Type{whole, whole}}}}, n)
}

// atomic is a right atomic model, as full as it may be.
func atomic() api.Model {
	emits := slices.Repeat([]api.Emit{{Port: "p", E: tuple(variable("v"), num(1)), If: []api.Expr{op(api.OpLt, variable("v"), num(9))}}}, 7)
	return api.Model{
		Name: "a1", Ins: ports(8), Outs: ports(8), Vars: sets(10), Ta: []api.Expr{tuple(num(3), num(2))},
		Emits: append(emits, api.Emit{Port: "q", E: sym("if")}), Int: sets(10), Ext: sets(10), Con: api.ConOwn, Own: sets(10),
	}
}

// coupled is a right coupled model, as full as it may be.
func coupled() api.Model {
	from, to := api.End{Part: "c", Port: "p"}, api.End{Port: "q"}
	acts := []api.Act{
		{Kind: api.ActAdd, Name: "c", Model: "a1"}, {Kind: api.ActDrop, Name: "c"},
		{Kind: api.ActTie, Link: api.Link{From: from, To: to}}, {Kind: api.ActCut, Link: api.Link{From: to, To: from}},
		{Kind: api.ActTie, Link: api.Link{From: to, To: to}},
	}
	var rules []api.Rule
	for range 4 {
		rules = append(rules, api.Rule{If: op(api.OpEq, of("c", "v"), num(1)), Acts: slices.Clone(acts)})
	}
	return api.Model{
		Name: "b1", Coupled: true, Ins: ports(8), Outs: ports(8), Parts: slices.Repeat([]api.Part{{Name: "c", Model: "a1"}}, 32),
		Links: slices.Repeat([]api.Link{{From: from, To: to}}, 200), Rules: rules,
	}
}

// fullest is a right program that reaches each limit.
func fullest() api.Program {
	p := api.Program{Root: "b1"}
	for range 12 {
		p.Models = append(p.Models, atomic(), coupled())
	}
	return p
}

// small is a right program of one atomic and one coupled model.
func small() api.Program { return api.Program{Models: []api.Model{atomic(), coupled()}, Root: "b1"} }

func TestRight(t *testing.T) {
	if !ast.Right(fullest()) || !ast.Right(small()) {
		t.Errorf("Right of the fullest program, or of a small one, = false")
	}
	one := num(1)
	for i, m := range []api.Model{
		{Name: "a", Ta: []api.Expr{one}},
		{Name: "a", Ta: []api.Expr{one}, Con: api.ConExtInt, Vars: []api.Set{}, Own: []api.Set{}, Rules: []api.Rule{}},
		{Name: "a", Ta: []api.Expr{one}, Con: api.ConOwn},
		{Name: "a", Ta: []api.Expr{one}, Con: api.ConOwn, Own: sets(1)},
		{Name: "a", Ta: []api.Expr{one}, Vars: append(sets(1), sets(1)...), Ins: ports(2), Outs: ports(2)},
		{Name: "a", Coupled: true},
		{Name: "a", Coupled: true, Ta: []api.Expr{}, Rules: []api.Rule{{}}},
		{Name: "a", Coupled: true, Rules: []api.Rule{{If: op(api.OpTrue), Acts: []api.Act{}}}},
		{Name: "a", Coupled: true, Parts: []api.Part{{Name: "a", Model: "a"}}, Links: []api.Link{{From: api.End{Port: "p"}, To: api.End{Port: "p"}}}},
	} {
		if !ast.Right(api.Program{Models: []api.Model{m}, Root: "z"}) {
			t.Errorf("Right of model %d = false", i)
		}
	}
}

// change is what makes a right program another one.
type change struct {
	what string
	do   func(p *api.Program, a, b *api.Model)
}

func held(t *testing.T, changes []change, want bool) {
	t.Helper()
	for _, c := range changes {
		p := small()
		c.do(&p, &p.Models[0], &p.Models[1])
		if got := ast.Right(p); got != want {
			t.Errorf("%s: Right = %t", c.what, got)
		}
	}
}

func TestRightOfTooMany(t *testing.T) {
	held(t, []change{
		{"no models", func(p *api.Program, a, b *api.Model) { p.Models = nil }},
		{"an empty list of models", func(p *api.Program, a, b *api.Model) { p.Models = []api.Model{} }},
		{"25 models", func(p *api.Program, a, b *api.Model) { p.Models = append(fullest().Models, *a) }},
		{"2000 models", func(p *api.Program, a, b *api.Model) { p.Models = slices.Repeat(p.Models, 1000) }},
		{"9 ins of an atomic one", func(p *api.Program, a, b *api.Model) { a.Ins = ports(9) }},
		{"9 outs of an atomic one", func(p *api.Program, a, b *api.Model) { a.Outs = ports(9) }},
		{"9 ins of a coupled one", func(p *api.Program, a, b *api.Model) { b.Ins = ports(9) }},
		{"9 outs of a coupled one", func(p *api.Program, a, b *api.Model) { b.Outs = ports(9) }},
		{"11 vars", func(p *api.Program, a, b *api.Model) { a.Vars = sets(11) }},
		{"no ta", func(p *api.Program, a, b *api.Model) { a.Ta = nil }},
		{"two tas", func(p *api.Program, a, b *api.Model) { a.Ta = append(a.Ta, a.Ta...) }},
		{"9 emits", func(p *api.Program, a, b *api.Model) { a.Emits = append(a.Emits, a.Emits[0]) }},
		{"two ifs", func(p *api.Program, a, b *api.Model) { a.Emits[6].If = append(a.Emits[6].If, num(1)) }},
		{"11 in int", func(p *api.Program, a, b *api.Model) { a.Int = sets(11) }},
		{"11 in ext", func(p *api.Program, a, b *api.Model) { a.Ext = sets(11) }},
		{"11 in own", func(p *api.Program, a, b *api.Model) { a.Own = sets(11) }},
		{"33 parts", func(p *api.Program, a, b *api.Model) { b.Parts = append(b.Parts, b.Parts[0]) }},
		{"201 links", func(p *api.Program, a, b *api.Model) { b.Links = append(b.Links, b.Links[0]) }},
		{"5 rules", func(p *api.Program, a, b *api.Model) { b.Rules = append(b.Rules, b.Rules[0]) }},
		{"6 acts", func(p *api.Program, a, b *api.Model) { b.Rules[3].Acts = append(b.Rules[3].Acts, b.Rules[0].Acts[1]) }},
	}, false)
}

func TestRightByKind(t *testing.T) {
	held(t, []change{
		{"parts of an atomic one", func(p *api.Program, a, b *api.Model) { a.Parts = b.Parts[:1] }},
		{"links of an atomic one", func(p *api.Program, a, b *api.Model) { a.Links = b.Links[:1] }},
		{"rules of an atomic one", func(p *api.Program, a, b *api.Model) { a.Rules = b.Rules[:1] }},
		{"vars of a coupled one", func(p *api.Program, a, b *api.Model) { b.Vars = sets(1) }},
		{"ta of a coupled one", func(p *api.Program, a, b *api.Model) { b.Ta = a.Ta }},
		{"emits of a coupled one", func(p *api.Program, a, b *api.Model) { b.Emits = a.Emits[:1] }},
		{"int of a coupled one", func(p *api.Program, a, b *api.Model) { b.Int = sets(1) }},
		{"ext of a coupled one", func(p *api.Program, a, b *api.Model) { b.Ext = sets(1) }},
		{"own of a coupled one", func(p *api.Program, a, b *api.Model) { b.Own = sets(1) }},
		{"own and con of a coupled one", func(p *api.Program, a, b *api.Model) { b.Own, b.Con = sets(1), api.ConOwn }},
		{"con 1 of a coupled one", func(p *api.Program, a, b *api.Model) { b.Con = api.ConExtInt }},
		{"con 2 of a coupled one", func(p *api.Program, a, b *api.Model) { b.Con = api.ConOwn }},
		{"con -1 of a coupled one", func(p *api.Program, a, b *api.Model) { b.Con = -1 }},
		{"an atomic one that is told as coupled", func(p *api.Program, a, b *api.Model) { a.Coupled = true }},
		{"a coupled one that is told as atomic", func(p *api.Program, a, b *api.Model) { b.Coupled = false }},
		{"con -1", func(p *api.Program, a, b *api.Model) { a.Con = -1 }},
		{"con 3", func(p *api.Program, a, b *api.Model) { a.Con = 3 }},
		{"con -1, no own", func(p *api.Program, a, b *api.Model) { a.Con, a.Own = -1, nil }},
		{"con 3, no own", func(p *api.Program, a, b *api.Model) { a.Con, a.Own = 3, nil }},
		{"con 0 with own", func(p *api.Program, a, b *api.Model) { a.Con = api.ConIntExt }},
		{"con 1 with own", func(p *api.Program, a, b *api.Model) { a.Con = api.ConExtInt }},
		{"an act of the kind -1", func(p *api.Program, a, b *api.Model) { b.Rules[0].Acts[0] = api.Act{Kind: -1} }},
		{"an act of the kind 4", func(p *api.Program, a, b *api.Model) { b.Rules[0].Acts[0].Kind = 4 }},
		{"a link of the kind 4", func(p *api.Program, a, b *api.Model) { b.Rules[0].Acts[2].Kind = 4 }},
		{"a link of the kind 0", func(p *api.Program, a, b *api.Model) { b.Rules[0].Acts[2].Kind = 0 }},
		{"an add of the kind 1", func(p *api.Program, a, b *api.Model) { b.Rules[0].Acts[0].Kind = 1 }},
		{"an add of the kind 2", func(p *api.Program, a, b *api.Model) { b.Rules[0].Acts[0].Kind = 2 }},
		{"a drop of the kind 0", func(p *api.Program, a, b *api.Model) { b.Rules[0].Acts[1].Kind = 0 }},
		{"a drop of the kind 3", func(p *api.Program, a, b *api.Model) { b.Rules[0].Acts[1].Kind = 3 }},
		{"an add with a link", func(p *api.Program, a, b *api.Model) { b.Rules[0].Acts[0].Link = b.Links[0] }},
		{"an add with a piece of a link", func(p *api.Program, a, b *api.Model) { b.Rules[0].Acts[0].Link.To.Part = "c" }},
		{"a drop with a link", func(p *api.Program, a, b *api.Model) { b.Rules[0].Acts[1].Link = b.Links[0] }},
		{"a drop with a model", func(p *api.Program, a, b *api.Model) { b.Rules[0].Acts[1].Model = "a1" }},
		{"a tie with a name", func(p *api.Program, a, b *api.Model) { b.Rules[0].Acts[2].Name = "c" }},
		{"a tie with a model", func(p *api.Program, a, b *api.Model) { b.Rules[0].Acts[2].Model = "a1" }},
		{"a cut with a name", func(p *api.Program, a, b *api.Model) { b.Rules[0].Acts[3].Name = "c" }},
		{"a cut with a model", func(p *api.Program, a, b *api.Model) { b.Rules[0].Acts[3].Model = "a1" }},
		{"a zero act", func(p *api.Program, a, b *api.Model) { b.Rules[0].Acts[4] = api.Act{} }},
	}, false)
}

func TestRightStays(t *testing.T) {
	held(t, []change{
		{"one model", func(p *api.Program, a, b *api.Model) { p.Models = p.Models[:1] }},
		{"the root of no model", func(p *api.Program, a, b *api.Model) { p.Root = "nobody" }},
		{"two models of one name", func(p *api.Program, a, b *api.Model) { b.Name = "a1" }},
		{"a port as another one", func(p *api.Program, a, b *api.Model) { a.Ins[0].Name = "q" }},
		{"own without sets", func(p *api.Program, a, b *api.Model) { a.Own = nil }},
		{"con 0 without own", func(p *api.Program, a, b *api.Model) { a.Con, a.Own = 0, nil }},
		{"con 1 without own", func(p *api.Program, a, b *api.Model) { a.Con, a.Own = 1, []api.Set{} }},
		{"no emits, sets, vars", func(p *api.Program, a, b *api.Model) { a.Emits, a.Int, a.Ext, a.Vars = nil, nil, nil, nil }},
		{"no ports", func(p *api.Program, a, b *api.Model) { a.Ins, a.Outs, b.Ins, b.Outs = nil, nil, nil, nil }},
		{"a coupled one of nothing", func(p *api.Program, a, b *api.Model) { b.Parts, b.Links, b.Rules = nil, nil, nil }},
		{"a rule of no acts", func(p *api.Program, a, b *api.Model) { b.Rules[0].Acts = nil }},
		{"what means nothing", func(p *api.Program, a, b *api.Model) { a.Ta[0] = op(api.OpAdd, variable("nobody"), op(api.OpTrue)) }},
		{"empty lists of the other kind", func(p *api.Program, a, b *api.Model) {
			a.Parts, a.Links, a.Rules, b.Own = []api.Part{}, []api.Link{}, []api.Rule{}, []api.Set{}
		}},
	}, true)
}

// names are the places where a name of layer 9 has to stand; those of ends may be empty.
func names(p *api.Program) map[string]*string {
	a, b := &p.Models[0], &p.Models[1]
	acts := b.Rules[2].Acts
	return map[string]*string{
		"root": &p.Root, "model": &a.Name, "coupled model": &b.Name,
		"in": &a.Ins[7].Name, "out": &a.Outs[7].Name, "in of a coupled one": &b.Ins[0].Name, "out of a coupled one": &b.Outs[3].Name,
		"var": &a.Vars[9].Name, "emit": &a.Emits[7].Port, "int": &a.Int[9].Name, "ext": &a.Ext[9].Name, "own": &a.Own[9].Name,
		"part": &b.Parts[31].Name, "model of a part": &b.Parts[31].Model,
		"from": &b.Links[199].From.Port, "to": &b.Links[199].To.Port,
		"add": &acts[0].Name, "model of an add": &acts[0].Model, "drop": &acts[1].Name,
		"from of a tie": &acts[2].Link.From.Port, "to of a tie": &acts[2].Link.To.Port,
		"from of a cut": &acts[3].Link.From.Port, "to of a cut": &acts[3].Link.To.Port,
	}
}

func partsOfEnds(p *api.Program) map[string]*string {
	b := &p.Models[1]
	acts := b.Rules[1].Acts
	return map[string]*string{
		"part of from": &b.Links[0].From.Part, "part of to": &b.Links[0].To.Part,
		"part of from of a tie": &acts[2].Link.From.Part, "part of to of a tie": &acts[2].Link.To.Part,
		"part of from of a cut": &acts[3].Link.From.Part, "part of to of a cut": &acts[3].Link.To.Part,
	}
}

func TestRightByNames(t *testing.T) {
	bad := append(strings.Fields(language), "A", "9", "a b", " a", "a.b", "abcdefghijklmnopq", "é", "\xff", strings.Repeat("a", 1000))
	good := []string{"a", "z9", "never", "abcdefghijklmno9", "ifs"}
	try := func(places func(p *api.Program) map[string]*string, s string, want bool) {
		p := small()
		for what := range places(&p) {
			p := small()
			*places(&p)[what] = s
			if got := ast.Right(p); got != want {
				t.Errorf("%s %.20q: Right = %t", what, s, got)
			}
		}
	}
	for _, s := range bad {
		try(names, s, false)
		try(partsOfEnds, s, false)
	}
	for _, s := range good {
		try(names, s, true)
		try(partsOfEnds, s, true)
	}
	try(names, "", false)
	try(partsOfEnds, "", true)
}

func TestRightByTypes(t *testing.T) {
	whole := api.Type{Kind: api.IsInt}
	in := func(l ...api.Type) api.Type { return api.Type{Kind: api.IsTuple, L: l} }
	for i, c := range []struct {
		t    api.Type
		want bool
	}{
		{whole, true}, {api.Type{Kind: api.IsBool}, true}, {api.Type{Kind: api.IsSym}, true}, {in(whole), true}, {in(in(in(whole))), true}, {in(whole, whole, whole, whole), true},
		{api.Type{Kind: -1}, false}, {api.Type{Kind: 4}, false}, {in(), false}, {api.Type{L: []api.Type{whole}}, false}, {in(in(in(in(whole)))), false}, {in(whole, whole, whole, whole, whole), false}, {in(whole, api.Type{Kind: 9}), false},
	} {
		for k := range 4 {
			p := small()
			a, b := &p.Models[0], &p.Models[1]
			*[]*api.Type{&a.Ins[7].T, &a.Outs[0].T, &b.Ins[0].T, &b.Outs[7].T}[k] = c.t
			if got := ast.Right(p); got != c.want {
				t.Errorf("Right with the type %d at %d = %t", i, k, got)
			}
		}
	}
}

// places are all places in a program where an expression stands.
func places(p *api.Program) map[string]*api.Expr {
	l := map[string]*api.Expr{}
	for i := range p.Models {
		m, at := &p.Models[i], strconv.Itoa(i)
		for part, sets := range map[string][]api.Set{"var": m.Vars, "int": m.Int, "ext": m.Ext, "own": m.Own} {
			for k := range sets {
				l[part+at+strconv.Itoa(k)] = &sets[k].E
			}
		}
		for k := range m.Ta {
			l["ta"+at+strconv.Itoa(k)] = &m.Ta[k]
		}
		for k := range m.Emits {
			l["emit"+at+strconv.Itoa(k)] = &m.Emits[k].E
			for n := range m.Emits[k].If {
				l["if"+at+strconv.Itoa(k)] = &m.Emits[k].If[n]
			}
		}
		for k := range m.Rules {
			l["rule"+at+strconv.Itoa(k)] = &m.Rules[k].If
		}
	}
	return l
}

func TestRightByExpressions(t *testing.T) {
	p := small()
	all := places(&p)
	if len(all) != 40+1+8+7+4 {
		t.Fatalf("%d expressions", len(all))
	}
	for what := range all {
		for _, e := range rightOnes() {
			p := small()
			*places(&p)[what] = e
			if !ast.Right(p) {
				t.Errorf("Right with %s as %s = false", show(e), what)
			}
		}
		for _, e := range wrongOnes() {
			p := small()
			*places(&p)[what] = e
			if ast.Right(p) {
				t.Errorf("Right with %s as %s = true", show(e), what)
			}
		}
	}
}

// TestRightInAnyModel: the last model counts as the first one does.
func TestRightInAnyModel(t *testing.T) {
	for i := range 24 {
		p := fullest()
		p.Models[i].Name = "if"
		if ast.Right(p) {
			t.Errorf("Right with a wrong name of model %d = true", i)
		}
		p = fullest()
		if p.Models[i].Coupled {
			p.Models[i].Rules[3].If = num(-1)
		} else {
			p.Models[i].Own[9].E = num(-1)
		}
		if ast.Right(p) {
			t.Errorf("Right with a wrong expression of model %d = true", i)
		}
	}
}

// TestArgumentsStay: no call changes what it is handed.
func TestArgumentsStay(t *testing.T) {
	for _, e := range anyOnes() {
		a, b := roomy(e), roomy(e)
		ast.Nest(a)
		ast.ExprRight(a)
		ast.SameExpr(a, b)
		for range ast.Walk(a) {
		}
		if !reflect.DeepEqual(a, roomy(e)) || !reflect.DeepEqual(b, roomy(e)) {
			t.Errorf("a call changed %s", show(e))
		}
	}
	for i, made := range []func() api.Program{fullest, small, func() api.Program { p, _ := mixed(); return p }} {
		p, q := made(), made()
		ast.Right(p)
		ast.Same(p, q)
		for range ast.Exprs(p) {
		}
		if !reflect.DeepEqual(p, made()) || !reflect.DeepEqual(q, made()) {
			t.Errorf("a call changed program %d", i)
		}
	}
}
