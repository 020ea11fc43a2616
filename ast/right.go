package ast

import (
	"gavotte/api"
	"gavotte/value"
)

// all tells whether a list has at most so many items, and something is so of each.
func all[T any](l []T, most int, so func(T) bool) bool {
	if len(l) > most {
		return false
	}
	for _, item := range l {
		if !so(item) {
			return false
		}
	}
	return true
}

// ExprRight tells whether an expression is right.
func ExprRight(e api.Expr) bool {
	if nest(e, api.MaxNest+1) > api.MaxNest {
		return false
	}
	for x := range within(e) {
		if !nodeRight(x) {
			return false
		}
	}
	return true
}

// nodeRight tells whether an expression has what its Op asks for and nothing else, what is within it aside.
func nodeRight(e api.Expr) bool {
	n, name, sub, args := e.N == 0, e.Name == "", e.Sub == "", len(e.Args) == 0
	switch e.Op {
	case api.OpTrue, api.OpFalse, api.OpElapsed:
	case api.OpInt:
		n = e.N >= 0
	case api.OpSym:
		name = value.Name(e.Name)
	case api.OpVar, api.OpCount, api.OpHas, api.OpSum:
		name = Name(e.Name)
	case api.OpOf:
		name, sub = Name(e.Name), Name(e.Sub)
	case api.OpTuple:
		args = 1 <= len(e.Args) && len(e.Args) <= api.MaxItems
	case api.OpLeast:
		name, args = Name(e.Name), len(e.Args) == 1
	case api.OpItem:
		n, args = 0 <= e.N && e.N < api.MaxItems, len(e.Args) == 1
	case api.OpNeg, api.OpNot:
		args = len(e.Args) == 1
	case api.OpAdd, api.OpSub, api.OpMul, api.OpDiv, api.OpMod, api.OpEq, api.OpLt, api.OpLe, api.OpAnd, api.OpOr:
		args = len(e.Args) == 2
	case api.OpIf:
		args = len(e.Args) == 3
	default:
		return false
	}
	return n && name && sub && args
}

// Right tells whether a program is right.
func Right(p api.Program) bool {
	if len(p.Models) == 0 || !Name(p.Root) || !all(p.Models, api.MaxModels, modelRight) {
		return false
	}
	for _, e := range standing(p) {
		if !ExprRight(e) {
			return false
		}
	}
	return true
}

// modelRight tells whether a model is right, its expressions aside.
func modelRight(m api.Model) bool {
	if !Name(m.Name) || !all(m.Ins, api.MaxPorts, portRight) || !all(m.Outs, api.MaxPorts, portRight) {
		return false
	}
	if m.Coupled {
		return coupledRight(m) && noAtomic(m)
	}
	return atomicRight(m) && noCoupled(m)
}

func atomicRight(m api.Model) bool {
	return all(m.Vars, api.MaxVars, setRight) &&
		len(m.Ta) == 1 &&
		all(m.Emits, api.MaxEmits, emitRight) &&
		all(m.Int, api.MaxVars, setRight) &&
		all(m.Ext, api.MaxVars, setRight) &&
		all(m.Own, api.MaxVars, setRight) &&
		conRight(m)
}

func conRight(m api.Model) bool {
	switch m.Con {
	case api.ConIntExt, api.ConExtInt:
		return len(m.Own) == 0
	}
	return m.Con == api.ConOwn
}

// noAtomic tells whether a model has nothing of an atomic one.
func noAtomic(m api.Model) bool {
	return len(m.Vars)+len(m.Ta)+len(m.Emits)+len(m.Int)+len(m.Ext)+len(m.Own) == 0 && m.Con == 0
}

func coupledRight(m api.Model) bool {
	return all(m.Parts, api.MaxParts, partRight) &&
		all(m.Links, api.MaxLinks, linkRight) &&
		all(m.Rules, api.MaxRules, ruleRight)
}

// noCoupled tells whether a model has nothing of a coupled one.
func noCoupled(m api.Model) bool { return len(m.Parts)+len(m.Links)+len(m.Rules) == 0 }

func portRight(p api.Port) bool { return Name(p.Name) && value.TypeRight(p.T) }

func setRight(s api.Set) bool { return Name(s.Name) }

func emitRight(x api.Emit) bool { return Name(x.Port) && len(x.If) <= 1 }

func partRight(p api.Part) bool { return Name(p.Name) && Name(p.Model) }

func linkRight(l api.Link) bool { return endRight(l.From) && endRight(l.To) }

func endRight(x api.End) bool { return Name(x.Port) && (x.Part == "" || Name(x.Part)) }

func ruleRight(r api.Rule) bool { return all(r.Acts, api.MaxActs, actRight) }

// actRight tells whether an act has what its Kind asks for and nothing else.
func actRight(a api.Act) bool {
	switch a.Kind {
	case api.ActAdd:
		return Name(a.Name) && Name(a.Model) && a.Link == api.Link{}
	case api.ActDrop:
		return Name(a.Name) && a.Model == "" && a.Link == api.Link{}
	case api.ActTie, api.ActCut:
		return a.Name == "" && a.Model == "" && linkRight(a.Link)
	}
	return false
}
