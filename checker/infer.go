package checker

import (
	"slices"

	"asof/api"
	"asof/units"
)

// scope is what the names in an expression refer to. Its methods are the rules of the kinds of expressions: each returns the type of an expression of proper form whose operands have these types.
type scope struct {
	catalog api.Catalog
	entity  string
	field   func(name string) (t api.Type, e api.Errno)
	rules   map[int]func(x api.Expr, operands []api.Type) (t api.Type, e api.Errno)
}

// newScope returns the scope of expressions about entities of this kind, with the fields of t.
func newScope(c api.Catalog, entity string, t api.Table) *scope {
	s := &scope{catalog: c, entity: entity}
	s.field = func(name string) (api.Type, api.Errno) {
		f, e := find(t.Fields, func(f api.Field) bool { return f.Name == name })
		return f.Type, e
	}
	s.rules = map[int]func(x api.Expr, operands []api.Type) (t api.Type, e api.Errno){
		api.LitE:     s.typeLiteral,
		api.FieldE:   s.typeField,
		api.FeatureE: s.typeFeature,
		api.LookupE:  s.typeLookup,
		api.AggE:     s.typeAggregate,
		api.UnaryE:   s.typeUnary,
		api.BinaryE:  s.typeBinary,
		api.IfE:      s.typeChoice,
		api.DefaultE: s.typeFallback,
	}
	return s
}

// infer returns the type of x, which has proper form. The type may share its unit with a definition or with x.
func (s *scope) infer(x api.Expr) (t api.Type, e api.Errno) {
	around := s
	if x.Kind == api.AggE {
		if around, e = s.inside(x.Table); e != api.OK {
			return api.Type{}, e
		}
	}
	operands := make([]api.Type, len(x.Args))
	for i, arg := range x.Args {
		if operands[i], e = around.infer(arg); e != api.OK {
			return api.Type{}, e
		}
	}
	return s.rules[x.Kind](x, operands)
}

// inside returns the scope inside of an aggregate over this table.
func (s *scope) inside(table string) (*scope, api.Errno) {
	t, e := find(s.catalog.Tables, func(t api.Table) bool { return t.Name == table })
	switch {
	case e != api.OK:
		return nil, e
	case t.Entity != s.entity:
		return nil, api.ErrType
	}
	return newScope(s.catalog, s.entity, t), api.OK
}

func (s *scope) typeLiteral(x api.Expr, _ []api.Type) (t api.Type, e api.Errno) {
	return typeOfLiteral(x), api.OK
}

func (s *scope) typeField(x api.Expr, _ []api.Type) (t api.Type, e api.Errno) {
	return s.field(x.Name)
}

func (s *scope) typeFeature(x api.Expr, _ []api.Type) (t api.Type, e api.Errno) {
	return s.featureOf(s.entity, x.Name)
}

func (s *scope) typeLookup(x api.Expr, operands []api.Type) (t api.Type, e api.Errno) {
	if operands[0].Kind != api.KeyV {
		return api.Type{}, api.ErrType
	}
	return s.featureOf(operands[0].Of, x.Name)
}

// featureOf returns the type of the feature in force of this name, which must be about entities of this kind.
func (s *scope) featureOf(entity, name string) (t api.Type, e api.Errno) {
	f, e := find(s.catalog.Features, func(f api.Feature) bool { return f.Name == name })
	switch {
	case e != api.OK:
		return api.Type{}, e
	case f.Entity != entity:
		return api.Type{}, api.ErrType
	}
	return f.Type, api.OK
}

func (s *scope) typeAggregate(x api.Expr, operands []api.Type) (t api.Type, e api.Errno) {
	argument, condition := operands[0], operands[1]
	if condition.Kind != api.BoolV || !aggregates(x.Op, argument) {
		return api.Type{}, api.ErrType
	}
	switch x.Op {
	case "count", "distinct":
		return api.Type{Kind: api.IntV}, api.OK
	case "mean", "decay":
		return api.Type{Kind: api.DecV, Unit: argument.Unit}, api.OK
	}
	return argument, api.OK
}

func (s *scope) typeUnary(x api.Expr, operands []api.Type) (t api.Type, e api.Errno) {
	operand := operands[0]
	switch {
	case x.Op == "-" && !isNumber(operand), x.Op == "not" && operand.Kind != api.BoolV:
		return api.Type{}, api.ErrType
	case x.Op == "-":
		return operand, api.OK
	}
	return api.Type{Kind: api.BoolV}, api.OK
}

func (s *scope) typeBinary(x api.Expr, operands []api.Type) (t api.Type, e api.Errno) {
	a, b := operands[0], operands[1]
	switch x.Op {
	case "+", "-", "*", "/":
		return calculate(x.Op, a, b)
	}
	if e = compare(x.Op, a, b); e != api.OK {
		return api.Type{}, e
	}
	return api.Type{Kind: api.BoolV}, api.OK
}

func (s *scope) typeChoice(_ api.Expr, operands []api.Type) (t api.Type, e api.Errno) {
	if operands[0].Kind != api.BoolV {
		return api.Type{}, api.ErrType
	}
	return common(operands[1], operands[2])
}

func (s *scope) typeFallback(_ api.Expr, operands []api.Type) (t api.Type, e api.Errno) {
	return common(operands[0], operands[1])
}

// find returns the first element for which the function returns true; ErrNone if there is none.
func find[T any](l []T, is func(v T) bool) (v T, e api.Errno) {
	i := slices.IndexFunc(l, is)
	if i < 0 {
		return v, api.ErrNone
	}
	return l[i], api.OK
}

// typeOfLiteral returns the type of the literal x, which is valid if x has proper form.
func typeOfLiteral(x api.Expr) api.Type {
	return api.Type{Kind: x.Val.Kind, Unit: x.Unit, Of: x.Name}
}

// aggregates says whether the aggregate op may have an argument of this type.
func aggregates(op string, argument api.Type) bool {
	switch op {
	case "sum", "mean", "quantile", "decay":
		return isNumber(argument)
	case "min", "max":
		return isNumber(argument) || argument.Kind == api.TextV
	}
	return true
}

// calculate returns the type of the sum, the difference, the product or the quotient of operands of these types.
func calculate(op string, a, b api.Type) (t api.Type, e api.Errno) {
	if !isNumber(a) || !isNumber(b) {
		return api.Type{}, api.ErrType
	}
	unit, e := calculateUnit(op, a.Unit, b.Unit)
	if e != api.OK {
		return api.Type{}, api.ErrUnit
	}
	if op != "/" && a.Kind == api.IntV && b.Kind == api.IntV {
		return api.Type{Kind: api.IntV, Unit: unit}, api.OK
	}
	return api.Type{Kind: api.DecV, Unit: unit}, api.OK
}

// calculateUnit returns the unit of the sum, the difference, the product or the quotient of numbers with these units.
func calculateUnit(op string, a, b []api.Factor) (u []api.Factor, e api.Errno) {
	switch {
	case op == "*":
		return units.Times(a, b)
	case op == "/":
		return units.Over(a, b)
	case !units.Same(a, b):
		return nil, api.ErrUnit
	}
	return a, api.OK
}

// compare returns the error of operands of these types of an operator whose result is a boolean.
func compare(op string, a, b api.Type) api.Errno {
	switch {
	case op == "and" || op == "or":
		return unless(a.Kind == api.BoolV && b.Kind == api.BoolV, api.ErrType)
	case isNumber(a) && isNumber(b):
		return unless(units.Same(a.Unit, b.Unit), api.ErrUnit)
	case op == "<" || op == "<=":
		return unless(a.Kind == api.TextV && b.Kind == api.TextV, api.ErrType)
	}
	return unless(difference(a, b) == api.OK, api.ErrType)
}

// unless returns OK if ok is true, and otherwise e.
func unless(ok bool, e api.Errno) api.Errno {
	if ok {
		return api.OK
	}
	return e
}

// common returns the type of what is either of the first type or of the second one.
func common(a, b api.Type) (t api.Type, e api.Errno) {
	if e = difference(a, b); e != api.OK {
		return api.Type{}, e
	}
	return a, api.OK
}
