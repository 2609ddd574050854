package checker

import (
	"math"
	"math/rand/v2"
	"reflect"
	"regexp"
	"slices"
	"strings"
	"testing"

	"asof/api"
	"asof/parser"
	"asof/units"
)

// keywords are those of the lexer's chapter.
var keywords = strings.Fields("table feature of keep bool text key int dec if then else default or and not true false null count sum mean min max first last distinct quantile decay all sliding tumbling session where")

// nameShape is that of names and of keywords.
var nameShape = regexp.MustCompile(`^[a-z][a-z0-9_]{0,23}$`)

// kindWords are the words of the kinds of types.
var kindWords = map[int]string{api.BoolV: "bool", api.IntV: "int", api.DecV: "dec", api.TextV: "text", api.KeyV: "key"}

// random returns a source of the same numbers in each run.
func random() *rand.Rand { return rand.New(rand.NewPCG(10, 31)) }

// pick returns one of the elements.
func pick[T any](r *rand.Rand, l []T) T { return l[r.IntN(len(l))] }

// isName says whether s is a name.
func isName(s string) bool { return nameShape.MatchString(s) && !slices.Contains(keywords, s) }

// names returns names and what is none.
func names() []string {
	l := []string{"a", "t", "x_", "u7", "counts", "tables", "zz9", "of_", strings.Repeat("n", 24)}
	l = append(l, "", "A", "_a", "7a", "a b", " a", "a ", "a-b", "a.b", "a\x00", "a\n", "a#", "a;", "a)+(b", "ä", "a\xff", "größe", strings.Repeat("n", 25), strings.Repeat("n", 1000))
	return append(l, keywords...)
}

// list returns the factors whose names and exponents follow one another.
func list(parts ...any) (u []api.Factor) {
	for i := 0; i+1 < len(parts); i += 2 {
		u = append(u, api.Factor{Name: parts[i].(string), Exp: parts[i+1].(int)})
	}
	return u
}

// unitLists returns valid units of names and what is none.
func unitLists() (l [][]api.Factor) {
	l = append(l, nil, list("eur", 1), list("m", 8), list("m", -8), list("eur", 1, "h", -1), list("a", 1, "b", 2, "c", -3, "d", 8), []api.Factor{})
	for _, exp := range []int{0, 9, -9, 264, 1<<32 + 1, math.MaxInt, math.MinInt} {
		l = append(l, list("m", exp), list("eur", 1, "m", exp))
	}
	l = append(l, list("s", 1, "m", 1), list("m", 1, "m", 1), list("a", 1, "b", 1, "c", 1, "d", 1, "e", 1), list("a", 1, "b", 1, "c", 1, "d", 1, "of", 1))
	for _, name := range names() {
		l = append(l, list(name, 1), list("a", 1, name, 2), list(name, -1, "zzzz", 1))
	}
	return l
}

// someUnits are a few of the lists of factors.
func someUnits() [][]api.Factor {
	return [][]api.Factor{nil, {}, list("eur", 1), list("eur", 1, "h", -1), list("m", 0), list("m", 9), list("s", 1, "m", 1), list("key", 1), list("A", 1), list("a", 1, "b", 1, "c", 1, "d", 1, "e", 1)}
}

// typeText returns the text of t in the language, if t is valid.
func typeText(t api.Type) string {
	s := kindWords[t.Kind]
	if t.Of != "" || t.Kind == api.KeyV {
		s += " " + t.Of
	}
	if len(t.Unit) > 0 {
		s += " [" + units.Format(t.Unit) + "]"
	}
	return s
}

// typeOf returns the type with this text.
func typeOf(text string) api.Type {
	t, at, e := parser.Type([]byte(text))
	if e != api.OK || at != 0 {
		panic(text)
	}
	return t
}

// expr returns the expression with this source.
func expr(src string) api.Expr {
	x, at, e := parser.Expr([]byte(src))
	if e != api.OK || at != 0 {
		panic(src)
	}
	return x
}

// catalogOf returns the catalog that the source declares.
func catalogOf(src string) api.Catalog {
	m, bad, e := parser.Module([]byte(src))
	if e != api.OK || len(bad) > 0 {
		panic(src)
	}
	return api.Catalog{Tables: m.Tables, Features: m.Features}
}

// same says whether a and b are equal, where a nil and an empty slice are.
func same[T any](a, b T) bool { return equal(reflect.ValueOf(a), reflect.ValueOf(b)) }

// equal says whether two values of one type, which consists of structs, slices, numbers and strings, are equal.
func equal(a, b reflect.Value) bool {
	switch a.Kind() {
	case reflect.Slice:
		for i := range min(a.Len(), b.Len()) {
			if !equal(a.Index(i), b.Index(i)) {
				return false
			}
		}
		return a.Len() == b.Len()
	case reflect.Struct:
		for i := range a.NumField() {
			if !equal(a.Field(i), b.Field(i)) {
				return false
			}
		}
		return true
	}
	return a.Equal(b)
}

// levels returns the numbers of expressions in x at each depth.
func levels(x api.Expr) (l []int) {
	for level := []api.Expr{x}; len(level) > 0; {
		l = append(l, len(level))
		var next []api.Expr
		for _, y := range level {
			next = append(next, y.Args...)
		}
		level = next
	}
	return l
}

// count returns the size of x.
func count(x api.Expr) (n int) {
	for _, many := range levels(x) {
		n += many
	}
	return n
}

// wantedType returns what Type should return: the grammar permits the texts of valid types only.
func wantedType(t api.Type) api.Errno {
	parsed, _, e := parser.Type([]byte(typeText(t)))
	switch {
	case e == api.OK && same(parsed, t):
		return 0
	case (t.Kind == 2 || t.Kind == 3) && t.Of == "":
		return 70
	}
	return 3
}

// P10.1: Type, for types of every kind with units and entity kinds that are right and wrong.
func TestType(t *testing.T) {
	found := map[api.Errno]int{}
	check := func(v api.Type) {
		want := wantedType(v)
		if e := Type(v); e != want {
			t.Fatalf("P10.1: Type of %+v returns %d, not %d", v, e, want)
		}
		found[want]++
	}
	for _, kind := range []int{math.MinInt, -1, 0, 1, 2, 3, 4, 5, 6, 7, 1<<32 + 2, math.MaxInt} {
		for _, u := range unitLists() {
			check(api.Type{Kind: kind, Unit: u})
			check(api.Type{Kind: kind, Unit: u, Of: "user"})
		}
		for _, of := range names() {
			for _, u := range someUnits() {
				check(api.Type{Kind: kind, Unit: u, Of: of})
			}
		}
	}
	for _, e := range []api.Errno{api.OK, api.ErrForm, api.ErrUnit} {
		if found[e] < 50 {
			t.Error("few types with the code", e)
		}
	}
}

// P10.1: the rows of Type's edges, written out.
func TestTypeRows(t *testing.T) {
	for i, row := range []struct {
		t api.Type
		e api.Errno
	}{
		{api.Type{}, api.ErrForm},
		{api.Type{Kind: api.BoolV}, api.OK},
		{api.Type{Kind: api.IntV}, api.OK},
		{api.Type{Kind: api.DecV}, api.OK},
		{api.Type{Kind: api.TextV}, api.OK},
		{api.Type{Kind: api.KeyV}, api.ErrForm},
		{api.Type{Kind: api.KeyV, Of: "user"}, api.OK},
		{api.Type{Kind: api.KeyV, Of: "count"}, api.ErrForm},
		{api.Type{Kind: api.KeyV, Of: "user", Unit: list("eur", 1)}, api.ErrForm},
		{api.Type{Kind: api.KeyV, Of: "user", Unit: []api.Factor{}}, api.OK},
		{api.Type{Kind: 6}, api.ErrForm},
		{api.Type{Kind: api.TextV, Of: "user"}, api.ErrForm},
		{api.Type{Kind: api.IntV, Of: "user"}, api.ErrForm},
		{api.Type{Kind: api.BoolV, Unit: list("eur", 1)}, api.ErrForm},
		{api.Type{Kind: api.TextV, Unit: list("eur", 0)}, api.ErrForm},
		{api.Type{Kind: api.IntV, Of: "user", Unit: list("eur", 0)}, api.ErrForm},
		{api.Type{Kind: api.IntV, Unit: list("eur", 0)}, api.ErrUnit},
		{api.Type{Kind: api.DecV, Unit: list("eur", 9)}, api.ErrUnit},
		{api.Type{Kind: api.DecV, Unit: list("of", 1)}, api.ErrUnit},
		{api.Type{Kind: api.DecV, Unit: list("h", 1, "eur", 1)}, api.ErrUnit},
		{api.Type{Kind: api.DecV, Unit: list("eur", 1, "h", -8)}, api.OK},
		{api.Type{Kind: api.DecV, Unit: list("a", 1, "b", 1, "c", 1, "d", 1)}, api.OK},
		{api.Type{Kind: api.DecV, Unit: list("a", 1, "b", 1, "c", 1, "d", 1, "e", 1)}, api.ErrUnit},
	} {
		if e := Type(row.t); e != row.e {
			t.Errorf("P10.1: row %d: Type of %+v returns %d, not %d", i, row.t, e, row.e)
		}
	}
}

// wantedTable returns what Table should return.
func wantedTable(v api.Table) api.Errno {
	if !isName(v.Name) || !isName(v.Entity) || v.Keep != max(0, min(v.Keep, 1<<40)) {
		return 3
	}
	if len(v.Fields) >= 9 {
		return 2
	}
	taken := map[string]bool{}
	for _, f := range v.Fields {
		e := wantedType(f.Type)
		if taken[f.Name] {
			e = 121
		}
		if !isName(f.Name) {
			e = 3
		}
		if e != 0 {
			return e
		}
		taken[f.Name] = true
	}
	return 0
}

// fieldsOfAllSorts returns fields that are right, and fields with names and types that are wrong, alone and together.
func fieldsOfAllSorts() (l []api.Field) {
	for _, name := range []string{"a", "b", "", "count"} {
		for _, t := range []api.Type{typeOf("int"), typeOf("key user"), {}, {Kind: api.DecV, Unit: list("m", 9)}} {
			l = append(l, api.Field{Name: name, Type: t})
		}
	}
	return l
}

// P10.1: Table, for tables with names, entity kinds, numbers of ticks and fields that are right and wrong.
func TestTable(t *testing.T) {
	found := map[api.Errno]int{}
	check := func(v api.Table) {
		want := wantedTable(v)
		if e := Table(v); e != want {
			t.Fatalf("P10.1: Table of %+v returns %d, not %d", v, e, want)
		}
		found[want]++
	}
	sorts := fieldsOfAllSorts()
	for _, name := range names() {
		check(api.Table{Name: name, Entity: "user"})
		check(api.Table{Name: "t", Entity: name})
		check(api.Table{Name: "t", Entity: "user", Fields: []api.Field{{Name: name, Type: typeOf("int")}}})
		check(api.Table{Name: name, Entity: "user", Keep: -1, Fields: sorts})
	}
	for _, keep := range []int{math.MinInt, -1, 0, 1, 1<<40 - 1, 1 << 40, 1<<40 + 1, math.MaxInt} {
		check(api.Table{Name: "t", Entity: "user", Keep: keep})
		check(api.Table{Name: "t", Entity: "user", Keep: keep, Fields: sorts})
		check(api.Table{Name: "t", Entity: "user", Keep: keep, Fields: sorts[:3]})
	}
	lists := [][]api.Field{nil}
	for range 3 {
		var longer [][]api.Field
		for _, l := range lists {
			check(api.Table{Name: "t", Entity: "user", Fields: l})
			for _, f := range sorts {
				longer = append(longer, append(slices.Clone(l), f))
			}
		}
		lists = longer
	}
	r := random()
	for range 20000 {
		v := api.Table{Name: "t", Entity: "user"}
		for i := range r.IntN(11) {
			f := api.Field{Name: string(rune('a' + i)), Type: typeOf("text")}
			if r.IntN(12) == 0 {
				f = pick(r, sorts)
			}
			v.Fields = append(v.Fields, f)
		}
		check(v)
	}
	for _, e := range []api.Errno{api.OK, api.ErrForm, api.ErrLimit, api.ErrTaken, api.ErrUnit} {
		if found[e] < 100 {
			t.Error("few tables with the code", e)
		}
	}
}

// P10.1: the rows of Table's edges, written out.
func TestTableRows(t *testing.T) {
	number := func(names ...string) (l []api.Field) {
		for _, name := range names {
			l = append(l, api.Field{Name: name, Type: typeOf("int [eur]")})
		}
		return l
	}
	eight := strings.Fields("a b c d e f g h")
	wrong := api.Field{Name: "a", Type: api.Type{Kind: api.IntV, Unit: list("m", 0)}}
	for i, row := range []struct {
		t api.Table
		e api.Errno
	}{
		{api.Table{}, api.ErrForm},
		{api.Table{Name: "t", Entity: "user"}, api.OK},
		{api.Table{Name: "t", Entity: "user", Fields: number(eight...), Keep: api.MaxTick}, api.OK},
		{api.Table{Name: "t", Entity: "user", Fields: number(eight...), Keep: api.MaxTick + 1}, api.ErrForm},
		{api.Table{Name: "t", Entity: "user", Keep: -1}, api.ErrForm},
		{api.Table{Name: "t", Entity: "user", Fields: number(append(eight, "i")...)}, api.ErrLimit},
		{api.Table{Name: "t", Entity: "user", Fields: number(append(eight, "a")...)}, api.ErrLimit},
		{api.Table{Name: "t", Entity: "user", Fields: number(append(eight, "i")...), Keep: -1}, api.ErrForm},
		{api.Table{Name: "t", Entity: "user", Fields: number("a", "b", "a", "")}, api.ErrTaken},
		{api.Table{Name: "t", Entity: "user", Fields: number("a", "", "a")}, api.ErrForm},
		{api.Table{Name: "t", Entity: "user", Fields: append(number("a"), wrong)}, api.ErrTaken},
		{api.Table{Name: "t", Entity: "user", Fields: append(number("b"), wrong)}, api.ErrUnit},
		{api.Table{Name: "t", Entity: "user", Fields: append([]api.Field{wrong}, number("")...)}, api.ErrUnit},
		{api.Table{Name: "t", Entity: "user", Fields: []api.Field{{Name: "of", Type: wrong.Type}}}, api.ErrForm},
		{api.Table{Name: "t", Entity: "user", Fields: []api.Field{{Name: "a", Type: api.Type{}}, {Name: "a", Type: typeOf("int")}}}, api.ErrForm},
		{api.Table{Name: "t", Entity: "keep"}, api.ErrForm},
		{api.Table{Name: "a", Entity: "a", Fields: number("a")}, api.OK},
	} {
		if e := Table(row.t); e != row.e {
			t.Errorf("P10.1: row %d: Table of %+v returns %d, not %d", i, row.t, e, row.e)
		}
	}
}

// featureFault is a fault of a feature with its error.
type featureFault struct {
	e     api.Errno
	spoil func(f *api.Feature)
}

// featureFaults returns faults of a feature, in the order in which Feature finds them. Those of the body, and those of the type, replace each other.
func featureFaults() (types, others, bodies []featureFault) {
	body := func(e api.Errno, x api.Expr) featureFault {
		return featureFault{e, func(f *api.Feature) { f.Body = x }}
	}
	valueType := func(e api.Errno, t api.Type) featureFault {
		return featureFault{e, func(f *api.Feature) { f.Type = t }}
	}
	others = []featureFault{
		{api.ErrForm, func(f *api.Feature) { f.Name = "" }},
		{api.ErrForm, func(f *api.Feature) { f.Name = "sum" }},
		{api.ErrForm, func(f *api.Feature) { f.Entity = "User" }},
		{api.ErrForm, func(f *api.Feature) { f.Entity = "key" }},
		{api.ErrForm, func(f *api.Feature) { f.Version = -1 }},
		{api.ErrForm, func(f *api.Feature) { f.Version = math.MinInt }},
	}
	types = []featureFault{
		valueType(api.ErrForm, api.Type{}),
		valueType(api.ErrForm, api.Type{Kind: api.KeyV}),
		valueType(api.ErrForm, api.Type{Kind: api.DecV, Unit: list("eur", 1), Of: "user"}),
		valueType(api.ErrUnit, api.Type{Kind: api.DecV, Unit: list("eur", 0)}),
		valueType(api.ErrUnit, api.Type{Kind: api.DecV, Unit: list("key", 1)}),
	}
	bodies = []featureFault{
		body(api.ErrLimit, nest(13, expr("total"))),
		body(api.ErrForm, api.Expr{}),
		body(api.ErrForm, api.Expr{Kind: api.FieldE, Name: "amount"}),
		body(api.ErrNone, expr("nothing")),
		body(api.ErrNone, expr("sum(payments, amount, all)")),
		body(api.ErrType, expr("rank")),
		body(api.ErrType, expr("total and true")),
		body(api.ErrUnit, expr("total + 1")),
	}
	return types, others, bodies
}

// nest returns x with as many negations around it that its depth is n, if it has no operands.
func nest(n int, x api.Expr) api.Expr {
	for range n - 1 {
		x = api.Expr{Kind: api.UnaryE, Op: "-", Args: []api.Expr{x}}
	}
	return x
}

// P10.1: Feature reports the first of its faults.
func TestFeatureFaults(t *testing.T) {
	c := catalogOf(definitions)
	right := api.Feature{Name: "half", Entity: "user", Type: typeOf("dec [eur]"), Body: expr("total / 2"), Version: 7}
	check := func(want api.Errno, faults ...featureFault) {
		t.Helper()
		f := right
		for _, fault := range faults {
			fault.spoil(&f)
		}
		if e := Feature(c, f); e != want {
			t.Errorf("P10.1: Feature of %+v returns %d, not %d", f, e, want)
		}
	}
	check(api.OK)
	types, others, bodies := featureFaults()
	for _, body := range bodies {
		check(body.e, body)
		for _, a := range types {
			check(a.e, a, body)
		}
		mismatch := featureFault{spoil: func(f *api.Feature) { f.Type = typeOf("text") }}
		check(body.e, body, mismatch)
	}
	for _, a := range types {
		check(a.e, a)
	}
	for _, a := range others {
		check(a.e, a)
		for _, b := range slices.Concat(others, types, bodies) {
			check(a.e, a, b)
		}
	}
}

// P10.1: Feature compares the type of the body with the one that is declared.
func TestFeatureTypes(t *testing.T) {
	c := catalogOf(definitions)
	bodies := map[string]string{
		"true": "bool", "1": "int", "1 [eur]": "int [eur]", "total": "dec [eur]", "total * total": "dec [eur^2]", "total / total": "dec",
		`"a"`: "text", `@user "u"`: "key user", `@shop "s"`: "key shop", "last(orders, shop, all)": "key shop", "rank of (@shop \"s\")": "int",
	}
	declared := strings.Split("bool|int|int [eur]|int [eur^2]|dec|dec [eur]|dec [eur^2]|dec [h]|text|key user|key shop|key shops", "|")
	for src, text := range bodies {
		for _, d := range declared {
			f := api.Feature{Name: "f", Entity: "user", Type: typeOf(d), Body: expr(src)}
			word := func(s string) string { return strings.TrimSpace(strings.Split(s, "[")[0]) }
			want := api.OK
			if d != text {
				want = api.ErrUnit
			}
			if word(d) != word(text) {
				want = api.ErrType
			}
			if e := Feature(c, f); e != want {
				t.Errorf("P10.1: Feature of type %s with the body %s returns %d, not %d", d, src, e, want)
			}
		}
	}
}

// P10.1: Feature, for names, entity kinds and versions that are right and wrong; the entity kind is that of the body.
func TestFeatureNames(t *testing.T) {
	c := catalogOf(definitions)
	for _, name := range names() {
		for _, entity := range names() {
			f := api.Feature{Name: name, Entity: entity, Type: typeOf("int"), Body: expr("1")}
			want := api.ErrForm
			if isName(name) && isName(entity) {
				want = api.OK
			}
			if e := Feature(c, f); e != want {
				t.Fatalf("P10.1: Feature of %q of %q returns %d, not %d", name, entity, e, want)
			}
		}
	}
	for _, version := range []int{0, 1, 1 << 40, 1<<40 + 1, math.MaxInt, -1, -1 << 32} {
		f := api.Feature{Name: "f", Entity: "shop", Type: typeOf("int"), Body: expr("rank"), Version: version}
		if e := Feature(c, f); (e == api.OK) != (version >= 0) || e != api.OK && e != api.ErrForm {
			t.Error("P10.1: Feature with the version", version, "returns", e)
		}
	}
	f := api.Feature{Name: "f", Entity: "user", Type: typeOf("int"), Body: expr("rank")}
	if e := Feature(c, f); e != api.ErrType {
		t.Error("P10.1: a feature of user uses one of shop:", e)
	}
	// A feature may be in force itself, with another type: only its body counts.
	f = api.Feature{Name: "total", Entity: "user", Type: typeOf("text"), Body: expr(`"x"`)}
	if e := Feature(c, f); e != api.OK {
		t.Error("P10.1: a new version of a feature in force:", e)
	}
}

// P10.1 and P10.5: Size and Depth, also of what has no proper form.
func TestSizes(t *testing.T) {
	r := random()
	var tree func(depth int) api.Expr
	tree = func(depth int) (x api.Expr) {
		x.Kind = r.IntN(14) - 2
		for range r.IntN(4) * min(depth, 1) {
			x.Args = append(x.Args, tree(depth-1))
		}
		return x
	}
	for i := range 3000 {
		checkSizes(t, tree(i%9))
	}
	for n := 1; n <= 80; n++ {
		for d := range 16 {
			if d <= n && n < 1<<d {
				x := sized(n, d)
				if Size(x) != n || Depth(x) != d {
					t.Fatal("P10.1: sizes", n, d, Size(x), Depth(x))
				}
				checkSizes(t, x)
			}
		}
	}
	if x := nest(1<<16, expr("a")); Size(x) != 1<<16 || Depth(x) != 1<<16 {
		t.Error("P10.1: a deep expression")
	}
	if x := (api.Expr{Args: make([]api.Expr, 1<<20)}); Size(x) != 1<<20+1 || Depth(x) != 2 {
		t.Error("P10.1: a wide expression")
	}
	if x := (api.Expr{Args: []api.Expr{}}); Size(x) != 1 || Depth(x) != 1 {
		t.Error("P10.1: an expression with an empty slice")
	}
}

// checkSizes compares Size and Depth of x, and those of its operands, with what they should be.
func checkSizes(t *testing.T, x api.Expr) {
	t.Helper()
	size, depth := Size(x), Depth(x)
	if size != count(x) || depth != len(levels(x)) {
		t.Fatalf("P10.1: the size and the depth of %+v are %d and %d", x, size, depth)
	}
	if size < depth {
		t.Fatalf("P10.5: the size of %+v is less than its depth", x)
	}
	for _, arg := range x.Args {
		if Size(arg) >= size || Depth(arg) >= depth {
			t.Fatalf("P10.5: an operand of %+v is as large or as deep", x)
		}
		checkSizes(t, arg)
	}
}
