package checker

import (
	"asof/api"
	"asof/lexer"
	"asof/units"
	"asof/values"
)

// maxPermille and maxHalfLife are the greatest Params of quantile and of decay.
const (
	maxPermille = 1000
	maxHalfLife = 1 << 30
)

// place is where an expression stands. Its methods are the rules of proper form for the kinds of expressions; they say nothing of the operands but how many there are.
type place int

// The places of expressions: outside and inside of an aggregate.
const (
	outside place = iota
	inside
)

// rules returns the rules of the kinds of expressions in this place.
func (p place) rules() map[int]func(x api.Expr) bool {
	return map[int]func(x api.Expr) bool{
		api.LitE:     p.literal,
		api.FieldE:   p.field,
		api.FeatureE: p.feature,
		api.LookupE:  p.lookup,
		api.AggE:     p.aggregate,
		api.UnaryE:   p.unary,
		api.BinaryE:  p.binary,
		api.IfE:      p.choice,
		api.DefaultE: p.fallback,
	}
}

// permits says whether x has proper form in this place, if it is neither too large nor too deep.
func (p place) permits(x api.Expr) bool {
	return follows(x, p.rules())
}

// follows says whether x follows these rules, and all its operands those of their places.
func follows(x api.Expr, rules map[int]func(x api.Expr) bool) bool {
	rule, found := rules[x.Kind]
	if !found || !rule(x) {
		return false
	}
	if x.Kind == api.AggE {
		rules = inside.rules()
	}
	for _, arg := range x.Args {
		if !follows(arg, rules) {
			return false
		}
	}
	return true
}

func (p place) literal(x api.Expr) bool {
	isValue := values.Check(x.Val) == api.OK && x.Val.N >= 0
	return isValue && Type(typeOfLiteral(x)) == api.OK && hasOnly(x, api.Expr{Val: x.Val, Unit: x.Unit, Name: x.Name}, 0)
}

func (p place) field(x api.Expr) bool {
	return p == inside && isNamed(x, 0)
}

func (p place) feature(x api.Expr) bool {
	return p == outside && isNamed(x, 0)
}

func (p place) lookup(x api.Expr) bool {
	return p == outside && isNamed(x, 1)
}

func (p place) aggregate(x api.Expr) bool {
	return p == outside && lexer.Name(x.Table) && isParam(x.Op, x.Param) && isWindow(x.Win) &&
		hasOnly(x, api.Expr{Op: x.Op, Table: x.Table, Param: x.Param, Win: x.Win}, 2) &&
		(x.Op != "count" || isTrue(x.Args[0]))
}

func (p place) unary(x api.Expr) bool {
	switch x.Op {
	case "-", "not", "null":
		return hasOnly(x, api.Expr{Op: x.Op}, 1)
	}
	return false
}

func (p place) binary(x api.Expr) bool {
	switch x.Op {
	case "+", "-", "*", "/", "==", "!=", "<", "<=", "and", "or":
		return hasOnly(x, api.Expr{Op: x.Op}, 2)
	}
	return false
}

func (p place) choice(x api.Expr) bool {
	return hasOnly(x, api.Expr{}, 3)
}

func (p place) fallback(x api.Expr) bool {
	return hasOnly(x, api.Expr{}, 2)
}

// hasOnly says whether x has this number of operands, and in all other fields but Kind the same as y.
func hasOnly(x, y api.Expr, operands int) bool {
	return len(x.Args) == operands && x.Op == y.Op && x.Name == y.Name && x.Table == y.Table &&
		x.Val == y.Val && units.Same(x.Unit, y.Unit) && x.Param == y.Param && x.Win == y.Win
}

// isNamed says whether x has a name, this number of operands, and nothing else.
func isNamed(x api.Expr, operands int) bool {
	return lexer.Name(x.Name) && hasOnly(x, api.Expr{Name: x.Name}, operands)
}

// isParam says whether op is the word of an aggregate that may have this Param.
func isParam(op string, param int) bool {
	switch op {
	case "count", "sum", "mean", "min", "max", "first", "last", "distinct":
		return param == 0
	case "quantile":
		return param >= 1 && param <= maxPermille
	case "decay":
		return param >= 1 && param <= maxHalfLife
	}
	return false
}

// isWindow says whether w has a kind, and a size if this kind has one.
func isWindow(w api.Window) bool {
	switch w.Kind {
	case api.AllW:
		return w.Size == 0
	case api.SlidingW, api.TumblingW, api.SessionW:
		return w.Size >= 1 && w.Size <= api.MaxTick
	}
	return false
}

// isTrue says whether x, if it has proper form, is the literal true.
func isTrue(x api.Expr) bool {
	return x.Kind == api.LitE && x.Val == api.Value{Kind: api.BoolV, N: 1}
}
