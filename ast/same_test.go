package ast_test

import (
	"reflect"
	"testing"

	"gavotte/api"
	"gavotte/ast"
)

func TestSameExpr(t *testing.T) {
	l, d := anyOnes(), dice(3)
	for range 100 {
		l = append(l, thrown(d, 3))
	}
	l = append(l, op(api.OpAdd, num(1), num(2)), op(api.OpAdd, num(2), num(1)), op(api.OpAdd, num(1)), op(api.OpSub, num(1), num(2)), of("b", "a"), of("a", ""), of("", "a"))
	for i, a := range l {
		if !ast.SameExpr(a, roomy(a)) {
			t.Errorf("SameExpr of %s and one alike = false", show(a))
		}
		for k, b := range l {
			if got := ast.SameExpr(a, b); got != alike(a, b) {
				t.Errorf("SameExpr of expressions %d and %d = %t", i, k, got)
			}
		}
	}
	if empty := []api.Expr{}; !ast.SameExpr(api.Expr{Args: empty}, api.Expr{}) || !ast.SameExpr(op(api.OpNeg, num(1)), op(api.OpNeg, api.Expr{N: 1, Args: empty})) {
		t.Errorf("SameExpr holds nil for another list than one without elements")
	}
}

func TestSameExprOfDeepOnes(t *testing.T) {
	a, b := nested(deep), nested(deep)
	if !ast.SameExpr(a, b) {
		t.Errorf("SameExpr of two deep ones alike = false")
	}
	if ast.SameExpr(a, nested(deep-1)) || ast.SameExpr(nested(deep-1), a) {
		t.Errorf("SameExpr of two deep ones that are unlike = true")
	}
	inmost := &b
	for len(inmost.Args) > 0 {
		inmost = &inmost.Args[0]
	}
	inmost.Name = "y"
	if ast.SameExpr(a, b) {
		t.Errorf("SameExpr of two deep ones that are unlike inside = true")
	}
}

// alter changes each field of what v stands for, one at a time, tells it, and takes
// the change back; of a list also how long it is.
func alter(v reflect.Value, told func(path string), path string) {
	was := reflect.New(v.Type()).Elem()
	was.Set(v)
	switch v.Kind() {
	case reflect.Int:
		v.SetInt(v.Int() + 1)
		told(path)
	case reflect.String:
		v.SetString(v.String() + "x")
		told(path)
	case reflect.Bool:
		v.SetBool(!v.Bool())
		told(path)
	case reflect.Struct:
		for i := range v.NumField() {
			alter(v.Field(i), told, path+"."+v.Type().Field(i).Name)
		}
	case reflect.Slice:
		for _, i := range []int{0, v.Len() - 1} {
			if i >= 0 && i < v.Len() {
				alter(v.Index(i), told, path+"[]")
			}
		}
		v.Set(reflect.Append(v.Slice3(0, v.Len(), v.Len()), reflect.Zero(v.Type().Elem())))
		told(path + " and one more")
		if v.Set(was); v.Len() > 0 {
			v.Set(v.Slice(0, v.Len()-1))
			told(path + " but the last one")
		}
	}
	v.Set(was)
}

func TestSame(t *testing.T) {
	odd, _ := mixed()
	for i, made := range []func() api.Program{fullest, small, func() api.Program { p, _ := mixed(); return p }, func() api.Program { return api.Program{} }} {
		a, b := made(), made()
		if !ast.Same(a, b) {
			t.Errorf("Same of program %d and one alike = false", i)
		}
		n := 0
		alter(reflect.ValueOf(&b).Elem(), func(path string) {
			if n++; ast.Same(a, b) || ast.Same(b, a) {
				t.Errorf("Same of program %d and one with another %s = true", i, path)
			}
		}, "Program")
		if n == 0 || !ast.Same(a, b) {
			t.Errorf("program %d: %d fields, and Same behind them = %t", i, n, ast.Same(a, b))
		}
	}
	if ast.Same(odd, small()) || ast.Same(small(), fullest()) || ast.Same(api.Program{}, small()) {
		t.Errorf("Same of unlike programs = true")
	}
}

// TestSameTellsEachField: the programs of TestSame have something in every field there is.
func TestSameTellsEachField(t *testing.T) {
	p, seen := fullest(), map[string]bool{}
	alter(reflect.ValueOf(&p).Elem(), func(path string) { seen[path] = true }, "Program")
	for _, path := range []string{
		".Root", ".Models[].Name", ".Models[].Coupled", ".Models[].Ins[].Name", ".Models[].Ins[].T.Kind", ".Models[].Outs[].T.L[].Kind", ".Models[].Outs[].Name",
		".Models[].Vars[].Name", ".Models[].Vars[].E.Args[].Name", ".Models[].Ta[].Args[].N", ".Models[].Emits[].Port", ".Models[].Emits[].E.Op", ".Models[].Emits[].If[].Args[].Sub", ".Models[].Emits[].If and one more",
		".Models[].Int[].E.Op", ".Models[].Ext[].E.N", ".Models[].Con", ".Models[].Own[].Name", ".Models[].Parts[].Name", ".Models[].Parts[].Model",
		".Models[].Links[].From.Part", ".Models[].Links[].From.Port", ".Models[].Links[].To.Part", ".Models[].Links[].To.Port",
		".Models[].Rules[].If.Args[].Sub", ".Models[].Rules[].Acts[].Kind", ".Models[].Rules[].Acts[].Name", ".Models[].Rules[].Acts[].Model", ".Models[].Rules[].Acts[].Link.From.Part", ".Models[].Rules[].Acts but the last one",
	} {
		if !seen["Program"+path] {
			t.Errorf("no change of %s was tried", path)
		}
	}
}

// emptied is a program alike in which lists without elements are not nil.
func emptied(v reflect.Value) {
	switch v.Kind() {
	case reflect.Struct:
		for i := range v.NumField() {
			emptied(v.Field(i))
		}
	case reflect.Slice:
		if v.Len() == 0 {
			v.Set(reflect.MakeSlice(v.Type(), 0, 3))
		}
		for i := range v.Len() {
			emptied(v.Index(i))
		}
	}
}

func TestEmptyListsAreNone(t *testing.T) {
	for i, made := range []func() api.Program{fullest, small, func() api.Program { return api.Program{} }} {
		a, b := made(), made()
		emptied(reflect.ValueOf(&b).Elem())
		if !ast.Same(a, b) || !ast.Same(b, a) || ast.Right(a) != ast.Right(b) {
			t.Errorf("program %d holds nil for another list than one without elements", i)
		}
	}
}
