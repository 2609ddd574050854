package checker

import (
	"slices"
	"strings"
	"testing"

	"asof/api"
	"asof/units"
)

// copyOf returns a copy of v that shares no memory with it but for strings.
func copyOf(v api.Catalog) api.Catalog {
	v.Tables = slices.Clone(v.Tables)
	for i := range v.Tables {
		v.Tables[i].Fields = slices.Clone(v.Tables[i].Fields)
		for k, f := range v.Tables[i].Fields {
			v.Tables[i].Fields[k].Type.Unit = slices.Clone(f.Type.Unit)
		}
	}
	v.Features = slices.Clone(v.Features)
	for i, f := range v.Features {
		v.Features[i].Type.Unit = slices.Clone(f.Type.Unit)
	}
	return v
}

// replacements returns x with one of the expressions in it that are not inside of an aggregate replaced by each of what the function returns for it.
func replacements(x api.Expr, others func(x api.Expr) []api.Expr) (l []api.Expr) {
	if x.Kind == api.AggE {
		return nil
	}
	for i, arg := range x.Args {
		for _, y := range slices.Concat(others(arg), replacements(arg, others)) {
			l = append(l, withArg(x, i, y))
		}
	}
	return l
}

// P10.2: the operands of an expression with a type have one, and may be replaced by others of the same type.
func TestOperands(t *testing.T) {
	pool := map[string][]api.Expr{}
	replaced := 0
	chance(6000, func(j judge, g generator, x api.Expr) {
		got, e := Infer(j.catalog, j.entity, x)
		if e != api.OK {
			return
		}
		key := j.entity + " " + typeText(got)
		pool[key] = append(pool[key], x)
		if len(pool[key]) < 5 {
			return
		}
		for _, y := range replacements(x, func(arg api.Expr) []api.Expr {
			own, e := Infer(j.catalog, j.entity, arg)
			if e != api.OK {
				t.Fatal("P10.2: an operand of", written(x), "has no type:", written(arg), e)
			}
			l := pool[j.entity+" "+typeText(own)]
			if len(l) == 0 {
				return nil
			}
			return []api.Expr{pick(g.r, l), pick(g.r, l), arg}
		}) {
			if wantedShape(y) != api.OK {
				continue
			}
			if after, e := Infer(j.catalog, j.entity, y); e != api.OK || !same(after, got) {
				t.Fatalf("P10.2: %s has the type %+v, but %s %+v and the code %d", written(x), got, written(y), after, e)
			}
			replaced++
		}
	})
	if replaced < 10000 {
		t.Error("few operands were replaced:", replaced)
	}
}

// namesIn returns the names of the features that x names.
func namesIn(x api.Expr) (l []string) {
	if x.Kind == api.FeatureE || x.Kind == api.LookupE {
		l = append(l, x.Name)
	}
	for _, arg := range x.Args {
		l = append(l, namesIn(arg)...)
	}
	return l
}

// retyped returns features with the names of these and of others, and tables likewise, all with other types and of other entity kinds.
func retyped(c api.Catalog) (tables []api.Table, features []api.Feature) {
	for i, f := range c.Features {
		f.Type = api.Type{Kind: i % 7, Unit: list("zz", i)}
		f.Entity = "bus"
		features = append(features, f, api.Feature{Name: "new_" + f.Name, Entity: "user", Type: f.Type})
	}
	for _, table := range c.Tables {
		tables = append(tables, api.Table{Name: table.Name, Entity: "bus"}, api.Table{Name: "new_" + table.Name, Entity: "user", Fields: table.Fields})
	}
	return tables, features
}

// P10.3: what is added behind the definitions, and features that are not named, do not change a type.
func TestWeakening(t *testing.T) {
	tried := 0
	chance(6000, func(j judge, g generator, x api.Expr) {
		got, e := Infer(j.catalog, j.entity, x)
		if e != api.OK {
			return
		}
		tables, features := retyped(j.catalog)
		named := namesIn(x)
		isNamed := func(f api.Feature) bool { return slices.Contains(named, f.Name) }
		isUnnamed := func(f api.Feature) bool { return !isNamed(f) }
		more, fewer, others := copyOf(j.catalog), copyOf(j.catalog), copyOf(j.catalog)
		more.Tables = append(more.Tables, tables...)
		more.Features = append(more.Features, features...)
		more.Drafts, more.Past = features, features
		fewer.Features = slices.DeleteFunc(fewer.Features, isUnnamed)
		others.Features = slices.Concat(slices.DeleteFunc(slices.Clone(features), isNamed), fewer.Features)
		at := g.r.IntN(len(j.catalog.Features))
		one := copyOf(j.catalog)
		one.Features = slices.DeleteFunc(one.Features, func(f api.Feature) bool { return isUnnamed(f) && f.Name == j.catalog.Features[at].Name })
		for i, c := range []api.Catalog{more, fewer, others, one} {
			if after, e := Infer(c, j.entity, x); e != api.OK || !same(after, got) {
				t.Fatalf("P10.3: %s has the type %+v, but over the catalog %d %+v and the code %d", written(x), got, i, after, e)
			}
		}
		if len(named) > 0 {
			tried++
		}
	})
	if tried < 1000 {
		t.Error("few expressions with names:", tried)
	}
}

// P10.3: tables and features that are added after those that there are make more expressions have a type, and those that are removed fewer.
func TestMissing(t *testing.T) {
	c := catalogOf(definitions)
	x := expr("total + sum(clicks, price, all)")
	check := func(c api.Catalog, want api.Errno) {
		t.Helper()
		if _, e := Infer(c, "user", x); e != want {
			t.Errorf("P10.1: Infer returns %d, not %d", e, want)
		}
	}
	check(c, api.OK)
	check(api.Catalog{Tables: c.Tables}, api.ErrNone)
	check(api.Catalog{Features: c.Features}, api.ErrNone)
	check(api.Catalog{Tables: c.Tables, Drafts: c.Features, Past: c.Features}, api.ErrNone)
	check(api.Catalog{Tables: c.Tables, Features: c.Features, Drafts: c.Features[1:]}, api.OK)
}

// P10.1: of several tables, features in force, or fields with one name, the first one counts, even if it does not fit.
func TestFirst(t *testing.T) {
	field := func(name, text string) api.Field { return api.Field{Name: name, Type: typeOf(text)} }
	table := func(entity string, fields ...api.Field) api.Table {
		return api.Table{Name: "t", Entity: entity, Fields: fields}
	}
	feature := func(entity, text string) api.Feature {
		return api.Feature{Name: "f", Entity: entity, Type: typeOf(text)}
	}
	tables := func(l ...api.Table) api.Catalog { return api.Catalog{Tables: l} }
	features := func(l ...api.Feature) api.Catalog { return api.Catalog{Features: l} }
	for i, row := range []struct {
		c    api.Catalog
		src  string
		want string
		e    api.Errno
	}{
		{tables(table("user", field("a", "int"), field("a", "text"))), "last(t, a, all)", "int", api.OK},
		{tables(table("user", field("a", "text"), field("a", "int"))), "sum(t, a, all)", "", api.ErrType},
		{tables(table("user", field("a", "int")), table("user", field("a", "text"))), "last(t, a, all)", "int", api.OK},
		{tables(table("user", field("b", "int")), table("user", field("a", "text"))), "last(t, a, all)", "", api.ErrNone},
		{tables(table("shop", field("a", "int")), table("user", field("a", "text"))), "last(t, a, all)", "", api.ErrType},
		{tables(table("user", field("a", "int")), table("shop", field("a", "text"))), "last(t, a, all)", "int", api.OK},
		{tables(api.Table{Name: "s", Entity: "shop"}, table("user", field("b", "int"), field("a", "text"))), "last(t, a, all)", "text", api.OK},
		{features(feature("user", "int"), feature("user", "text")), "f", "int", api.OK},
		{features(feature("shop", "int"), feature("user", "text")), "f", "", api.ErrType},
		{features(feature("user", "int"), feature("shop", "text")), `f of (@shop "s")`, "", api.ErrType},
		{features(feature("shop", "int"), feature("shop", "text")), `f of (@shop "s")`, "int", api.OK},
		{features(api.Feature{Name: "g", Entity: "user", Type: typeOf("dec")}, feature("user", "text")), "f", "text", api.OK},
	} {
		got, e := Infer(row.c, "user", expr(row.src))
		if e != row.e || typeText(got) != row.want {
			t.Errorf("P10.1: row %d: Infer of %s returns %+v and %d", i, row.src, got, e)
		}
	}
}

// P10.1: a catalog need not be valid: its types are what they are.
func TestInvalidCatalogs(t *testing.T) {
	twisted := list("s", 1, "m", 1) // in no order, and so not a unit
	fields := map[string]api.Type{
		"twisted": {Kind: api.IntV, Unit: twisted}, "twice": {Kind: api.DecV, Unit: twisted}, "straight": {Kind: api.IntV, Unit: list("m", 1, "s", 1)},
		"keyword": {Kind: api.IntV, Unit: list("of", 8)}, "marked": {Kind: api.IntV, Of: "user"}, "none": {}, "nine": {Kind: 9, Unit: twisted, Of: "x"}, "other": {Kind: 9},
		"plain": {Kind: api.TextV}, "metres": {Kind: api.TextV, Unit: list("m", 1)}, "keyless": {Kind: api.KeyV}, "wide": {Kind: api.BoolV, Of: "x"},
	}
	c := api.Catalog{}
	for name, v := range fields {
		c.Features = append(c.Features, api.Feature{Name: name, Type: v})
		c.Tables = append(c.Tables, api.Table{Name: "of_" + name, Fields: []api.Field{{Name: name, Type: v}}, Keep: -1})
	}
	wantedSum := fields["twisted"]
	for _, row := range []struct {
		src  string
		want api.Type
		e    api.Errno
	}{
		{"twisted", fields["twisted"], 0}, {"none", api.Type{}, 0}, {"nine", fields["nine"], 0}, {"keyless", fields["keyless"], 0},
		{"twisted + twisted", wantedSum, 0}, {"twisted - twice", fields["twice"], 0}, {"twisted + straight", api.Type{}, api.ErrUnit}, {"twisted == twice", typeOf("bool"), 0}, {"twisted < straight", api.Type{}, api.ErrUnit},
		{"twisted * 1", api.Type{}, api.ErrUnit}, {"1 / twisted", api.Type{}, api.ErrUnit}, {"twisted / twisted", api.Type{}, api.ErrUnit}, {"none * twisted", api.Type{}, api.ErrType},
		{"keyword * 1", fields["keyword"], 0}, {"keyword * keyword", api.Type{}, api.ErrUnit}, {"keyword / keyword", typeOf("dec"), 0},
		{"-marked", fields["marked"], 0}, {"marked + 1", typeOf("int"), 0}, {"marked * 1", typeOf("int"), 0}, {"marked == 1", typeOf("bool"), 0}, {"marked default 1", api.Type{}, api.ErrType}, {"marked default marked", fields["marked"], 0},
		{"nine == nine", typeOf("bool"), 0}, {"nine == other", api.Type{}, api.ErrType}, {"other == other", typeOf("bool"), 0}, {"nine < nine", api.Type{}, api.ErrType}, {"none != none", typeOf("bool"), 0}, {"null(none)", typeOf("bool"), 0}, {"-none", api.Type{}, api.ErrType},
		{"plain < metres", typeOf("bool"), 0}, {"plain == metres", api.Type{}, api.ErrType}, {"plain default metres", api.Type{}, api.ErrUnit}, {"metres != metres", typeOf("bool"), 0},
		{"none of (keyless)", api.Type{}, 0}, {`none of (@x "k")`, api.Type{}, api.ErrType}, {"none of (nine)", api.Type{}, api.ErrType},
		{"wide and not wide", typeOf("bool"), 0}, {"if wide then 1 else 2", typeOf("int"), 0}, {"if true then wide else true", api.Type{}, api.ErrType}, {"count(of_wide, all where wide)", typeOf("int"), 0},
		{"sum(of_twice, twice, all)", fields["twice"], 0}, {"mean(of_twisted, twisted, all)", fields["twice"], 0}, {"mean(of_marked, marked, all)", typeOf("dec"), 0}, {"quantile(of_marked, marked, 1, all)", fields["marked"], 0}, {"min(of_metres, metres, all)", fields["metres"], 0}, {"max(of_nine, nine, all)", api.Type{}, api.ErrType}, {"first(of_nine, nine, all)", fields["nine"], 0}, {"distinct(of_none, none, all)", typeOf("int"), 0},
	} {
		got, e := Infer(c, "", expr(row.src))
		if e != row.e || !same(got, row.want) {
			t.Errorf("P10.1: Infer of %s returns %+v and %d, not %+v and %d", row.src, got, e, row.want, row.e)
		}
	}
}

// P10.4: the units of products, quotients and sums.
func TestUnits(t *testing.T) {
	lists := [][]api.Factor{nil, list("eur", 1), list("h", -1), list("eur", 1, "h", -1), list("m", 8), list("m", -8), list("m", 4), list("a", 1, "b", -2, "c", 3, "d", -4), list("a", -1, "b", 2), list("d", 4, "e", 1), list("d", 1, "e", -8, "m", 8)}
	literal := func(kind int, u []api.Factor) api.Expr {
		return api.Expr{Kind: api.LitE, Val: api.Value{Kind: kind, N: 1}, Unit: u}
	}
	check := func(op string, x, y api.Expr, unit []api.Factor, e api.Errno) {
		t.Helper()
		want := api.Type{Kind: api.DecV, Unit: unit}
		if x.Val.Kind == api.IntV && y.Val.Kind == api.IntV && op != "/" {
			want.Kind = api.IntV
		}
		if e != api.OK {
			want, e = api.Type{}, api.ErrUnit
		}
		got, code := Infer(api.Catalog{}, "user", api.Expr{Kind: api.BinaryE, Op: op, Args: []api.Expr{x, y}})
		if code != e || !same(got, want) {
			t.Errorf("P10.4: Infer of %s %s %s returns %+v and %d, not %+v and %d", written(x), op, written(y), got, code, want, e)
		}
	}
	kinds := []int{api.IntV, api.DecV}
	for _, u := range lists {
		for _, v := range lists {
			product, e := units.Times(u, v)
			quotient, f := units.Over(u, v)
			for i := range 4 {
				x, y := literal(kinds[i/2], u), literal(kinds[i%2], v)
				check("*", x, y, product, e)
				check("/", x, y, quotient, f)
				unequal := api.OK
				if !slices.Equal(u, v) {
					unequal = api.ErrUnit
				}
				check("+", x, y, u, unequal)
				check("-", x, y, u, unequal)
			}
		}
		for i := range 4 {
			x, one := literal(kinds[i/2], u), literal(kinds[i%2], nil)
			check("*", x, one, u, api.OK)
			check("*", one, x, u, api.OK)
			check("/", x, one, u, api.OK)
			check("+", x, literal(kinds[i%2], u), u, api.OK)
		}
	}
}

// P10.1: a result shares no memory with the arguments, which are not changed.
func TestMemory(t *testing.T) {
	c := catalogOf(definitions)
	before := copyOf(c)
	for _, src := range []string{"total", "-total", "total + total", "pence + total", "total default total", "if true then total else total", "sum(orders, amount, all)", "mean(orders, amount, all)", "first(orders, amount, all)", "rent of (home)", "1 [eur]", "total * 1", "total / 1"} {
		x := expr(src)
		got, e := Infer(c, "user", x)
		if e != api.OK || len(got.Unit) != 1 {
			t.Fatal(src, got, e)
		}
		got.Unit[0].Exp = 99
		if again, _ := Infer(c, "user", x); !same(c, before) || !same(x, expr(src)) || again.Unit[0].Exp != 1 {
			t.Fatalf("P10.1: the unit of the type of %s is that of a definition or of a literal", src)
		}
	}
	x := expr("sum(clicks, price * 2 [h], all where page == \"a\") / total")
	f := api.Feature{Name: "f", Entity: "user", Type: typeOf("dec [h]"), Body: x}
	if Feature(c, f) != api.OK || Shape(x) != api.OK || Table(c.Tables[1]) != api.ErrLimit || !same(c, before) || !same(x, expr("sum(clicks, price * 2 [h], all where page == \"a\") / total")) {
		t.Error("P10.1: the arguments changed")
	}
}

// P10.1: the entity kind and the names of a catalog are compared byte by byte, whatever they are.
func TestEntities(t *testing.T) {
	for _, entity := range append(names(), "user", "users", "use", "User") {
		c := api.Catalog{
			Tables:   []api.Table{{Name: "t", Entity: entity, Fields: []api.Field{{Name: "a", Type: typeOf("int")}}}},
			Features: []api.Feature{{Name: "f", Entity: entity, Type: typeOf("text")}},
		}
		for _, about := range append(names(), "user", "users", "use", "User") {
			for _, src := range strings.Split("f|sum(t, a, all)|count(t, all)", "|") {
				want := api.OK
				if about != entity {
					want = api.ErrType
				}
				if _, e := Infer(c, about, expr(src)); e != want {
					t.Fatalf("P10.1: Infer of %s of %q about %q returns %d", src, entity, about, e)
				}
			}
		}
	}
}
