package checker

import (
	"fmt"
	"maps"
	"math/rand/v2"
	"regexp"
	"slices"
	"strings"
	"testing"

	"asof/api"
	"asof/units"
)

// definitions declares tables and features for the tests of types.
const definitions = `
table orders of user { amount: dec [eur], shop: key shop };
table clicks of user { n: int, paid: bool, page: text, shop: key shop, by: key user, price: dec [eur], cents: int [eur], rate: dec [eur*h^-1], hours: int [h] };
table visits of shop { n: int, at: text, open: bool, by: key user, price: dec [eur] };
feature total of user: dec [eur] = 0.0 [eur];
feature pence of user: int [eur] = 1 [eur];
feature hours of user: dec [h] = 1.0 [h];
feature pay of user: dec [eur*h^-1] = 1.0 [eur*h^-1];
feature many of user: int = 1;
feature part of user: dec = 1.0;
feature active of user: bool = true;
feature title of user: text = "a";
feature home of user: key shop = @shop "s";
feature friend of user: key user = @user "u";
feature rank of shop: int = 1;
feature rent of shop: dec [eur] = 1.0 [eur];
feature open of shop: bool = true;
feature sign of shop: text = "a";
feature owner of shop: key user = @user "u";
feature span of shop: int [h] = 1 [h];
`

// types are those of the tests.
var types = strings.Split("bool|text|key user|key shop|int|int [eur]|int [h]|int [eur*h^-1]|int [eur^8]|int [a*b*c*d]|dec|dec [eur]|dec [h]|dec [eur*h^-1]|dec [h^-8]|dec [a*b*c*e^-1]", "|")

// numberRules says which kinds of numbers have which result.
const numberRules = `
+: int int int, int dec dec, dec int dec, dec dec dec
-: int int int, int dec dec, dec int dec, dec dec dec
*: int int int, int dec dec, dec int dec, dec dec dec
/: int int dec, int dec dec, dec int dec, dec dec dec
==: int int bool, int dec bool, dec int bool, dec dec bool
!=: int int bool, int dec bool, dec int bool, dec dec bool
<: int int bool, int dec bool, dec int bool, dec dec bool, text text bool
<=: int int bool, int dec bool, dec int bool, dec dec bool, text text bool
and: bool bool bool
or: bool bool bool
`

// aggregateRules says which kinds of arguments have which result; "other" is that of all others, and "same" that of the argument.
const aggregateRules = `
count: other int
distinct: other int
sum: int same, dec same
quantile: int same, dec same
mean: int dec, dec dec
decay: int dec, dec dec
min: int same, dec same, text same
max: int same, dec same, text same
first: other same
last: other same
`

// rulesOf returns the rules, where the last word of each is the result of those before it.
func rulesOf(text string) map[string]string {
	rules := map[string]string{}
	for _, line := range strings.Split(strings.TrimSpace(text), "\n") {
		op, rows, _ := strings.Cut(line, ": ")
		for _, row := range strings.Split(rows, ", ") {
			at := strings.LastIndex(row, " ")
			rules[op+" "+row[:at]] = row[at+1:]
		}
	}
	return rules
}

// judge infers types by the rules of the texts of types.
type judge struct {
	catalog            api.Catalog
	entity             string
	binary, aggregates map[string]string
}

// newJudge returns a judge over this catalog.
func newJudge(c api.Catalog, entity string) judge {
	return judge{c, entity, rulesOf(numberRules), rulesOf(aggregateRules)}
}

// kindOf returns the text of t without its unit.
func kindOf(t api.Type) string { return typeText(api.Type{Kind: t.Kind, Of: t.Of}) }

// withUnit returns the type with the text of a kind, and a unit.
func withUnit(kind string, u []api.Factor) api.Type {
	t := typeOf(kind)
	t.Unit = u
	return t
}

// powers returns the unit with the exponents of a, and those of b as often as n says.
func powers(a, b []api.Factor, n int) (u []api.Factor, ok bool) {
	sums := map[string]int{}
	for _, f := range a {
		sums[f.Name] += f.Exp
	}
	for _, f := range b {
		sums[f.Name] += n * f.Exp
	}
	for _, name := range slices.Sorted(maps.Keys(sums)) {
		if exp := sums[name]; exp > 8 || exp < -8 {
			return nil, false
		} else if exp != 0 {
			u = append(u, api.Factor{Name: name, Exp: exp})
		}
	}
	return u, len(u) <= 4
}

// infer returns what Infer should return.
func (j judge) infer(x api.Expr) (api.Type, api.Errno) {
	if e := wantedShape(x); e != 0 {
		return api.Type{}, e
	}
	return j.of(x, nil)
}

// of returns the type of x, of proper form, among these fields.
func (j judge) of(x api.Expr, fields []api.Field) (t api.Type, e api.Errno) {
	if x.Kind == api.AggE {
		at := slices.IndexFunc(j.catalog.Tables, func(t api.Table) bool { return t.Name == x.Table })
		if at < 0 {
			return t, 4
		}
		if j.catalog.Tables[at].Entity != j.entity {
			return t, 5
		}
		fields = j.catalog.Tables[at].Fields
	}
	var args []api.Type
	for _, arg := range x.Args {
		t, e := j.of(arg, fields)
		if e != 0 {
			return t, e
		}
		args = append(args, t)
	}
	return j.own(x, args, fields)
}

// own returns the type of x with operands of these types, among these fields.
func (j judge) own(x api.Expr, args []api.Type, fields []api.Field) (api.Type, api.Errno) {
	switch x.Kind {
	case api.LitE:
		return api.Type{Kind: x.Val.Kind, Unit: x.Unit, Of: x.Name}, 0
	case api.FieldE:
		for _, f := range fields {
			if f.Name == x.Name {
				return f.Type, 0
			}
		}
		return api.Type{}, 4
	case api.FeatureE:
		return j.feature(x.Name, "key "+j.entity)
	case api.LookupE:
		if !strings.HasPrefix(kindOf(args[0]), "key ") {
			return api.Type{}, 5
		}
		return j.feature(x.Name, kindOf(args[0]))
	case api.AggE:
		return j.aggregate(x.Op, args[0], kindOf(args[1]))
	case api.UnaryE:
		if x.Op == "null" || x.Op == "not" && kindOf(args[0]) == "bool" {
			return typeOf("bool"), 0
		}
		if kind := kindOf(args[0]); x.Op == "-" && (kind == "int" || kind == "dec") {
			return args[0], 0
		}
		return api.Type{}, 5
	case api.BinaryE:
		return j.operation(x.Op, args[0], args[1])
	case api.IfE:
		if kindOf(args[0]) != "bool" {
			return api.Type{}, 5
		}
	}
	return either(args[len(args)-2:])
}

// feature returns the type of the first feature in force with this name, which must be about entities with such keys.
func (j judge) feature(name, keys string) (api.Type, api.Errno) {
	for _, f := range j.catalog.Features {
		if f.Name == name && "key "+f.Entity == keys {
			return f.Type, 0
		} else if f.Name == name {
			return api.Type{}, 5
		}
	}
	return api.Type{}, 4
}

// aggregate returns the type of an aggregate with this argument and such a condition.
func (j judge) aggregate(op string, argument api.Type, condition string) (api.Type, api.Errno) {
	result, found := j.aggregates[op+" "+kindOf(argument)]
	if !found {
		result, found = j.aggregates[op+" other"]
	}
	switch {
	case !found || condition != "bool":
		return api.Type{}, 5
	case result == "same":
		return argument, 0
	case result == "int":
		return typeOf("int"), 0
	}
	return withUnit(result, argument.Unit), 0
}

// operation returns the type of an operation on operands of these types: if it has one but for the units, the units are wrong.
func (j judge) operation(op string, a, b api.Type) (api.Type, api.Errno) {
	result, found := j.binary[op+" "+kindOf(a)+" "+kindOf(b)]
	if (op == "==" || op == "!=") && kindOf(a) == kindOf(b) {
		result, found = "bool", true
	}
	if !found {
		return api.Type{}, 5
	}
	u, ok := a.Unit, units.Format(a.Unit) == units.Format(b.Unit)
	switch op {
	case "*":
		u, ok = powers(a.Unit, b.Unit, 1)
	case "/":
		u, ok = powers(a.Unit, b.Unit, -1)
	}
	if !ok {
		return api.Type{}, 70
	}
	if result == "bool" {
		u = nil
	}
	return withUnit(result, u), 0
}

// either returns the type that both types are.
func either(l []api.Type) (api.Type, api.Errno) {
	if kindOf(l[0]) != kindOf(l[1]) {
		return api.Type{}, 5
	}
	if units.Format(l[0].Unit) != units.Format(l[1].Unit) {
		return api.Type{}, 70
	}
	return l[0], 0
}

// check compares Infer with what it should return, and returns this.
func (j judge) check(t *testing.T, promise string, x api.Expr) (api.Type, api.Errno) {
	t.Helper()
	want, wantE := j.infer(x)
	got, e := Infer(j.catalog, j.entity, x)
	if e != wantE || !same(got, want) {
		t.Fatalf("%s: Infer of %s, about a %s, returns %+v and %d, not %+v and %d", promise, written(x), j.entity, got, e, want, wantE)
	}
	return got, e
}

// P10.1: the rows of the chapter's section 'Examples'.
func TestExamples(t *testing.T) {
	c := catalogOf("table orders of user { amount: dec [eur], shop: key shop }; feature total of user: dec [eur] = 0.0 [eur]; feature rank of shop: int = 1;")
	for _, row := range []struct {
		src, want string
		e         api.Errno
	}{
		{"sum(orders, amount, all)", "dec [eur]", api.OK},
		{"total / 2", "dec [eur]", api.OK},
		{"total * total", "dec [eur^2]", api.OK},
		{"total + 1", "", api.ErrUnit},
		{"rank", "", api.ErrType},
		{"rank of (last(orders, shop, all))", "int", api.OK},
		{"mean(orders, shop, all)", "", api.ErrType},
		{"if total < 1.0 [eur] then 1 else null(total)", "", api.ErrType},
		{"sum(payments, amount, all)", "", api.ErrNone},
	} {
		got, e := Infer(c, "user", expr(row.src))
		if e != row.e || typeText(got) != row.want || got.Kind == 0 != (e != api.OK) {
			t.Errorf("P10.1: Infer of %s returns %+v and %d", row.src, got, e)
		}
	}
}

// P10.1: what is wrong first, and other rows of the chapter's rules, written out.
func TestInferRows(t *testing.T) {
	c := catalogOf(definitions)
	for _, row := range []struct{ src, want string }{
		{"true", "bool"}, {"1", "int"}, {"1 [h]", "int [h]"}, {"1.5 [eur*h^-1]", "dec [eur*h^-1]"}, {`""`, "text"}, {`@shop "s"`, "key shop"}, {`@bus "s"`, "key bus"},
		{"many", "int"}, {"title", "text"}, {"home", "key shop"}, {"nothing", "4"}, {"rank", "5"}, {"n", "4"}, {"amount", "4"},
		{"rank of (home)", "int"}, {"owner of (home)", "key user"}, {"total of (owner of (home))", "dec [eur]"}, {`total of (@user "u")`, "dec [eur]"}, {"friend of (friend)", "key user"},
		{"rank of (friend)", "5"}, {"total of (home)", "5"}, {`rank of (@bus "s")`, "5"}, {"rank of (1)", "5"}, {"rank of (title)", "5"}, {"nothing of (home)", "4"}, {"nothing of (1)", "5"}, {"rank of (nothing)", "4"}, {"nothing of (rank)", "5"}, {"rank of (total + 1)", "70"},
		{"count(clicks, all)", "int"}, {"count(clicks, all where paid)", "int"}, {"count(clicks, all where n)", "5"}, {"count(clicks, all where nothing)", "4"}, {"count(nothing, all)", "4"}, {"sum(nothing, 1, all)", "4"}, {"count(nothing, all where 1)", "4"}, {"count(nothing, all where true + 1)", "4"}, {"count(nothing, all where nothing + 1)", "4"}, {"count(visits, all)", "5"}, {"count(visits, all where 1 + 1 [h] < 2)", "5"}, {"count(visits, all where nothing)", "5"},
		{"sum(clicks, n, all)", "int"}, {"sum(clicks, cents, all)", "int [eur]"}, {"sum(clicks, page, all)", "5"}, {"sum(clicks, paid, all)", "5"}, {"sum(clicks, shop, all)", "5"},
		{"mean(clicks, n, all)", "dec"}, {"mean(clicks, cents, all)", "dec [eur]"}, {"mean(clicks, rate, all)", "dec [eur*h^-1]"}, {"mean(clicks, page, all)", "5"}, {"decay(clicks, cents, 3, all)", "dec [eur]"}, {"decay(clicks, by, 3, all)", "5"},
		{"quantile(clicks, cents, 500, all)", "int [eur]"}, {"quantile(clicks, price, 500, all)", "dec [eur]"}, {"quantile(clicks, page, 500, all)", "5"},
		{"min(clicks, page, all)", "text"}, {"max(clicks, rate, all)", "dec [eur*h^-1]"}, {"min(clicks, paid, all)", "5"}, {"max(clicks, shop, all)", "5"},
		{"first(clicks, paid, all)", "bool"}, {"last(clicks, by, all)", "key user"}, {"distinct(clicks, by, all)", "int"}, {"distinct(clicks, price, all)", "int"},
		{"sum(clicks, nothing, all)", "4"}, {"sum(clicks, amount, all)", "4"}, {"sum(clicks, page, all where nothing)", "4"}, {"sum(clicks, page, all where n)", "5"}, {"sum(clicks, page, all where n + price == n)", "70"}, {"sum(clicks, n + price, all where nothing)", "70"}, {"sum(clicks, n, all where total)", "4"}, {"sum(nothing, n + price, all)", "4"}, {"sum(visits, n + price, all)", "5"},
		{"-many", "int"}, {"-total", "dec [eur]"}, {"-active", "5"}, {"-title", "5"}, {"-home", "5"}, {"not active", "bool"}, {"not many", "5"}, {"not title", "5"}, {"null(many)", "bool"}, {"null(title)", "bool"}, {"null(home)", "bool"}, {"null(nothing)", "4"}, {"null(rank)", "5"},
		{"many + many", "int"}, {"many + part", "dec"}, {"part - many", "dec"}, {"pence + total", "dec [eur]"}, {"pence - pence", "int [eur]"}, {"pence + many", "70"}, {"total - hours", "70"}, {"many + active", "5"}, {"title + title", "5"}, {"home - many", "5"}, {"nothing + rank", "4"}, {"rank + nothing", "5"}, {"many + nothing", "4"}, {"title + rank", "5"}, {"title - nothing", "4"}, {"total + hours + nothing", "70"}, {"nothing + (total + hours)", "4"},
		{"total * hours", "dec [eur*h]"}, {"total / hours", "dec [eur*h^-1]"}, {"many * pence", "int [eur]"}, {"pence / pence", "dec"}, {"many / many", "dec"}, {"pay * hours", "dec [eur]"}, {"1 [m^8] * 1 [m]", "70"}, {"1 [m^-8] / 1 [m]", "70"}, {"1 [m^8] / 1 [m]", "dec [m^7]"}, {"1 [a*b*c*d] * 1 [e]", "70"}, {"1 [a*b*c*d] * 1 [d^-1*e]", "int [a*b*c*e]"}, {"title * many", "5"}, {"many / active", "5"}, {"1 [m^8] * 1 [m] + rank", "70"},
		{"total == pence", "bool"}, {"total == many", "70"}, {"title == title", "bool"}, {"home == home", "bool"}, {"home == friend", "5"}, {"home == title", "5"}, {"active != active", "bool"}, {"active != many", "5"}, {"hours != many", "70"}, {"title != nothing", "4"},
		{"total < pence", "bool"}, {"total <= many", "70"}, {"title < title", "bool"}, {"title <= many", "5"}, {"active < active", "5"}, {"home <= home", "5"}, {"many < active", "5"},
		{"active and active", "bool"}, {"active or many", "5"}, {"title and active", "5"}, {"many and nothing", "4"},
		{"if active then many else many", "int"}, {"if many then many else many", "5"}, {"if active then many else part", "5"}, {"if active then total else part", "70"}, {"if active then total else pence", "5"}, {"if active then home else friend", "5"}, {"if many then total else hours", "5"}, {"if many then nothing else 1", "4"}, {"if rank then nothing else 1", "5"}, {"if active then nothing else rank", "4"}, {"if active then rank else nothing", "5"}, {"if active then total + 1 else nothing", "70"}, {"if active then home else home", "key shop"},
		{"many default 1", "int"}, {"many default 1.0", "5"}, {"total default 1.0", "70"}, {"total default 1", "5"}, {"home default friend", "5"}, {"home default @shop \"s\"", "key shop"}, {"nothing default rank", "4"}, {"title default \"\"", "text"},
	} {
		got, e := Infer(c, "user", expr(row.src))
		text := typeText(got)
		if e != api.OK {
			text = fmt.Sprint(int(e))
		}
		if text != row.want || e != api.OK && !same(got, api.Type{}) {
			t.Errorf("P10.1: Infer of %s returns %+v and %d, not %s", row.src, got, e, row.want)
		}
		newJudge(c, "user").check(t, "P10.1", expr(row.src))
	}
}

// catalogOfTypes returns a catalog with a table of fields of all types, and features of all types about users and shops.
func catalogOfTypes() (c api.Catalog) {
	table := api.Table{Name: "t", Entity: "user"}
	for i, text := range types {
		table.Fields = append(table.Fields, api.Field{Name: fmt.Sprint("a", i), Type: typeOf(text)})
		c.Features = append(c.Features, api.Feature{Name: fmt.Sprint("a", i), Entity: "user", Type: typeOf(text)}, api.Feature{Name: fmt.Sprint("b", i), Entity: "shop", Type: typeOf(text)})
	}
	c.Tables = append(c.Tables, table)
	return c
}

// P10.1: each operator and each aggregate with operands of each type, and with operands that have none.
func TestInferPairs(t *testing.T) {
	j := newJudge(catalogOfTypes(), "user")
	binaries := strings.Fields("+ - * / == != < <= and or default")
	aggregates := strings.Split("count(t, all where %[2]s)|sum(t, %s, all where %s)|mean(t, %s, all where %s)|min(t, %s, all where %s)|max(t, %s, all where %s)|first(t, %s, all where %s)|last(t, %s, all where %s)|distinct(t, %s, all where %s)|quantile(t, %s, 500, all where %s)|decay(t, %s, 9, all where %s)", "|")
	for i := range len(types) + 1 {
		a := fmt.Sprint("a", i) // the last one does not exist
		for _, src := range []string{a, "-" + a, "not " + a, "null(" + a + ")", a + " of (" + a + ")", "b0 of (" + a + ")", "a0 of (" + a + ")", "zz of (" + a + ")", fmt.Sprint("b", i)} {
			j.check(t, "P10.1", expr(src))
		}
		for k := range len(types) + 1 {
			b := fmt.Sprint("a", k)
			for _, op := range binaries {
				src := a + " " + op + " " + b
				j.check(t, "P10.1", expr(src))
				j.check(t, "P10.1", expr("last(t, "+src+", all)"))
				j.check(t, "P10.1", expr("("+src+") "+op+" (b1 of ("+a+"))"))
			}
			for _, pattern := range aggregates {
				src := fmt.Sprintf(pattern, a, b)
				j.check(t, "P10.1", expr(src))
				j.check(t, "P10.1", expr(strings.Replace(src, "(t", "(zz", 1)))
			}
			for n := range len(types) + 1 {
				j.check(t, "P10.1", expr(fmt.Sprintf("if %s then %s else a%d", a, b, n)))
			}
		}
	}
}

// generator makes sources of expressions by chance, most of which have a type.
type generator struct {
	r      *rand.Rand
	c      api.Catalog
	entity string
}

// anyTemplates and boolTemplates are sources of expressions in which the texts of types stand for expressions; W is the type that is wanted, and V another one.
var (
	anyTemplates    = []string{"(if {bool} then {W} else {W})", "({W} default {W})"}
	boolTemplates   = []string{"(not {bool})", "null({V})", "({bool} and {bool})", "({bool} or {bool})", "({V} == {V})", "({V} != {V})", "({int U} < {dec U})", "({dec U} <= {int U})", "({int U} == {dec U})", "({text} < {text})"}
	numberTemplates = []string{"(-{W})", "({W} + {W})", "({W} - {W})", "({W} * {int})", "({int} * {W})"}
	decTemplates    = []string{"({W} + {int U})", "({int U} - {W})", "({W} / {W2})", "({int U} / {int})", "({dec} * {int U})", "({dec U} * {int})"}
	restOfAggregate = ", all)|, sliding 5)|, tumbling 7 where {bool})|, session 3 where {bool})"
)

// templates returns those of this type, inside or outside of an aggregate.
func (g generator) templates(want string, inside bool) (l []string) {
	l = slices.Clone(anyTemplates)
	kind, unit, _ := strings.Cut(want, " [")
	var ops []string
	switch kind {
	case "bool":
		l = append(l, boolTemplates...)
	case "int", "dec":
		l = append(l, numberTemplates...)
		ops = []string{"sum(T, {W}", "min(T, {W}", "max(T, {W}", "quantile(T, {W}, 500"}
	case "text":
		ops = []string{"min(T, {W}", "max(T, {W}"}
	}
	if want == "int" {
		ops = append(ops, "count(T", "distinct(T, {V}")
	}
	if kind == "dec" {
		l = append(l, decTemplates...)
		ops = append(ops, "mean(T, {int U}", "decay(T, {W}, 9")
	}
	if unit == "eur*h^-1]" {
		l = append(l, "({W} * {int})", "({dec [eur]} / {int [h]})", "({int [eur]} / {dec [h]})")
	}
	if inside {
		return l
	}
	for _, f := range g.c.Features {
		if typeText(f.Type) == want {
			l = append(l, f.Name+" of ({key "+f.Entity+"})")
		}
	}
	for _, op := range append(ops, "first(T, {W}", "last(T, {W}") {
		l = append(l, op+pick(g.r, strings.Split(restOfAggregate, "|")))
	}
	return l
}

// leaf returns the source of a literal, of a field or of a feature of this type.
func (g generator) leaf(want string, fields []api.Field, inside bool) string {
	kind, unit, _ := strings.Cut(want, " [")
	literal := map[string]string{"bool": "true", "text": `"a"`, "int": "3", "dec": "1.5"}[kind]
	switch {
	case literal == "":
		literal = "@" + strings.TrimPrefix(kind, "key ") + ` "k"`
	case unit != "":
		literal += " [" + unit
	}
	l := []string{literal}
	for _, f := range fields {
		if typeText(f.Type) == want {
			l = append(l, f.Name, f.Name)
		}
	}
	for _, f := range g.c.Features {
		if !inside && typeText(f.Type) == want && f.Entity == g.entity {
			l = append(l, f.Name, f.Name)
		}
	}
	return pick(g.r, l)
}

// source returns the source of an expression of this type, among these fields; now and then, a part of it has another one.
func (g generator) source(want string, depth int, fields []api.Field, inside bool) string {
	if g.r.IntN(60) == 0 {
		want = pick(g.r, types)
	}
	if depth == 0 || g.r.IntN(6) == 0 {
		if g.r.IntN(60) == 0 {
			return pick(g.r, []string{"rank", "nothing", "n", "total", "price"})
		}
		return g.leaf(want, fields, inside)
	}
	template := pick(g.r, g.templates(want, inside))
	if strings.Contains(template, "(T") {
		table := pick(g.r, g.c.Tables)
		for table.Entity != g.entity && g.r.IntN(20) > 0 {
			table = pick(g.r, g.c.Tables)
		}
		if g.r.IntN(40) == 0 {
			table = api.Table{Name: "payments"}
		}
		template, fields, inside = strings.Replace(template, "(T", "("+table.Name, 1), table.Fields, true
	}
	other := pick(g.r, types)
	_, unit, found := strings.Cut(want, " [")
	if !found && want == "bool" {
		unit = pick(g.r, []string{"eur]", "h]", "m]"})
	}
	return regexp.MustCompile(`\{[^}]*\}`).ReplaceAllStringFunc(template, func(hole string) string {
		text := strings.Trim(hole, "{}")
		switch text {
		case "W":
			text = want
		case "W2":
			text = "dec"
		case "V":
			text = other
		case "int U", "dec U":
			text = strings.TrimSuffix(text, " U")
			if unit != "" {
				text += " [" + unit
			}
		}
		return g.source(text, depth-1, fields, inside)
	})
}

// chance returns n expressions by chance, each with the judge over whose catalog it stands.
func chance(n int, use func(j judge, g generator, x api.Expr)) {
	r := random()
	c := catalogOf(definitions)
	judges := map[string]judge{}
	for _, entity := range []string{"user", "shop", "bus"} {
		judges[entity] = newJudge(c, entity)
	}
	for i := range n {
		entity := "user"
		if i%4 == 0 {
			entity = pick(r, []string{"shop", "shop", "shop", "bus"})
		}
		g := generator{r, c, entity}
		if entity == "bus" {
			g.entity = "user"
		}
		use(judges[entity], g, expr(g.source(pick(r, types), r.IntN(6), nil, false)))
	}
}

// P10.1: expressions by chance, in each other.
func TestInferByChance(t *testing.T) {
	found := map[string]int{}
	chance(30000, func(j judge, _ generator, x api.Expr) {
		got, e := j.check(t, "P10.1", x)
		found[fmt.Sprint(kindWords[got.Kind], int(e))]++
		if len(levels(x)) > 4 {
			found["deep"]++
		}
	})
	for _, key := range strings.Fields("bool0 int0 dec0 text0 key0 2 4 5 70 deep") {
		if found[key] < 100 {
			t.Error("few expressions of", key, found)
		}
	}
}
