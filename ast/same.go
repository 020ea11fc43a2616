package ast

import (
	"slices"
	"strings"

	"gavotte/api"
	"gavotte/value"
)

// SameExpr tells whether two expressions are alike, whatever they are.
func SameExpr(a, b api.Expr) bool {
	return a.Op == b.Op && a.N == b.N && a.Name == b.Name && a.Sub == b.Sub &&
		slices.EqualFunc(a.Args, b.Args, SameExpr)
}

// Same tells whether two programs are alike, whatever they are.
func Same(a, b api.Program) bool {
	return a.Root == b.Root && slices.EqualFunc(a.Models, b.Models, sameModel)
}

func sameModel(a, b api.Model) bool {
	return a.Name == b.Name && a.Coupled == b.Coupled && a.Con == b.Con &&
		slices.EqualFunc(a.Ins, b.Ins, samePort) &&
		slices.EqualFunc(a.Outs, b.Outs, samePort) &&
		slices.EqualFunc(a.Vars, b.Vars, sameSet) &&
		slices.EqualFunc(a.Ta, b.Ta, SameExpr) &&
		slices.EqualFunc(a.Emits, b.Emits, sameEmit) &&
		slices.EqualFunc(a.Int, b.Int, sameSet) &&
		slices.EqualFunc(a.Ext, b.Ext, sameSet) &&
		slices.EqualFunc(a.Own, b.Own, sameSet) &&
		slices.Equal(a.Parts, b.Parts) &&
		slices.Equal(a.Links, b.Links) &&
		slices.EqualFunc(a.Rules, b.Rules, sameRule)
}

func samePort(a, b api.Port) bool { return a.Name == b.Name && value.SameType(a.T, b.T) }

func sameSet(a, b api.Set) bool { return a.Name == b.Name && SameExpr(a.E, b.E) }

func sameEmit(a, b api.Emit) bool {
	return a.Port == b.Port && SameExpr(a.E, b.E) && slices.EqualFunc(a.If, b.If, SameExpr)
}

func sameRule(a, b api.Rule) bool {
	return SameExpr(a.If, b.If) && slices.Equal(a.Acts, b.Acts)
}

// copied answers an expression alike that shares no memory with it.
func copied(e api.Expr) api.Expr {
	e.Name, e.Sub = strings.Clone(e.Name), strings.Clone(e.Sub)
	if len(e.Args) == 0 {
		e.Args = nil
		return e
	}
	args := make([]api.Expr, len(e.Args))
	for i, arg := range e.Args {
		args[i] = copied(arg)
	}
	e.Args = args
	return e
}
