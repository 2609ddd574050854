package catalog

import (
	"fmt"
	"math/rand/v2"
	"regexp"
	"slices"
	"strings"
	"testing"

	"asof/api"
	"asof/parser"
)

// definitions declares tables and features in force that fit together.
const definitions = `
table clicks of user { n: int, shop: key shop, by: key user, ok: bool };
table orders of user { amount: dec [eur], ok: bool, note: text } keep 100;
table visits of shop { n: int, at: key user };
feature b of user: int = count(clicks, all);
feature c of user: int = b + d;
feature d of user: int = b default 0;
feature e of user: dec [eur] = sum(orders, amount, all where ok);
feature g of shop: int = sum(visits, n, sliding 5);
feature h of user: key shop = last(clicks, shop, all);
feature k of user: int = g of (h);
`

// others and former are drafts and past versions, some of which do not fit the definitions.
const (
	others = "feature b of user: int = count(clicks, sliding 60); feature m of user: text = c + missing; feature z of shop: int = z;"
	former = "feature b of user: int = 1; feature b of shop: dec [h] = first(lost, note, all); feature gone of user: bool = lost of (k); feature h of user: int = true;"
)

// longName has as many bytes as a name may have.
const longName = "n23456789_123456789_1234"

// wrongNames are no names.
var wrongNames = append([]string{"", "A", "_a", "7a", "a b", "a ", " a", "a-b", "a\n", "ä", "a\xff", longName + "5", "(a)", `"a"`},
	strings.Fields("table feature of keep bool text key int dec if then else default or and not true false null count sum mean min max first last distinct quantile decay all sliding tumbling session where")...)

// nameShape is that of names and of keywords.
var nameShape = regexp.MustCompile(`^[a-z][a-z0-9_]{0,23}$`)

// isName says whether s is a name.
func isName(s string) bool { return nameShape.MatchString(s) && !slices.Contains(wrongNames, s) }

// random returns a source of the same numbers in each run.
func random(seed uint64) *rand.Rand { return rand.New(rand.NewPCG(12, seed)) }

// pick returns one of the elements.
func pick[T any](r *rand.Rand, l []T) T { return l[r.IntN(len(l))] }

// shown returns a text of v that is the same for a nil and an empty slice.
func shown(v any) string { return fmt.Sprintf("%+v", v) }

// moduleOf returns the module with this source.
func moduleOf(src string) api.Module {
	m, bad, e := parser.Module([]byte(src))
	if e != api.OK || len(bad) > 0 {
		panic(src)
	}
	return m
}

// expr returns the expression with this source.
func expr(src string) api.Expr {
	x, at, e := parser.Expr([]byte(src))
	if e != api.OK || at != 0 {
		panic(src)
	}
	return x
}

// versions returns the features that the source declares, with versions that begin with the first one.
func versions(src string, first, step int) []api.Feature {
	l := moduleOf(src).Features
	for i := range l {
		l[i].Version = first + i*step
	}
	return l
}

// catalogOf returns the catalog with what the sources declare: the version 100 in force, the drafts 101, and the past versions from 1 on.
func catalogOf(inForce, drafts, past string) api.Catalog {
	return api.Catalog{Tables: moduleOf(inForce).Tables, Features: versions(inForce, 100, 0), Drafts: versions(drafts, 101, 0), Past: versions(past, 1, 1)}
}

// base returns a valid catalog with tables, features in force, drafts and past versions.
func base() api.Catalog { return catalogOf(definitions, others, former) }

// feature returns a feature in force of a user with this body.
func feature(name string, body api.Expr) api.Feature {
	return api.Feature{Name: name, Entity: "user", Type: api.Type{Kind: api.IntV}, Body: body, Version: 1}
}

// uses returns an expression that directly uses these features.
func uses(names ...string) api.Expr {
	x := api.Expr{Kind: api.LitE, Val: api.Value{Kind: api.IntV, N: 1}}
	for _, name := range names {
		x = api.Expr{Kind: api.BinaryE, Op: "+", Args: []api.Expr{x, {Kind: api.FeatureE, Name: name}}}
	}
	return x
}

// inForce returns the catalog with these features in force: each row is the name of one, and those that it directly uses.
func inForce(rows ...string) (c api.Catalog) {
	for _, row := range rows {
		names := strings.Fields(row)
		c.Features = append(c.Features, feature(names[0], uses(names[1:]...)))
	}
	return c
}

// everyFunction calls all functions of the package and returns what they return.
func everyFunction(c api.Catalog, name string, x api.Expr) (l []any) {
	t, hasTable := Table(c, name)
	f, hasFeature := Feature(c, name)
	d, hasDraft := Draft(c, name)
	features, tables := Uses(c, x)
	h, e := Digest(c)
	return append(l, Check(c), t, hasTable, f, hasFeature, d, hasDraft, features, tables, Cycle(c), Order(c), h, e)
}

// P12.3, P12.4: the rows of the chapter's section 'Examples'.
func TestExamples(t *testing.T) {
	src := "table clicks of user { }; feature a of user: int = count(clicks, all); feature b of user: int = a + c; feature c of user: int = %s; feature d of user: int = e of (k);"
	c := catalogOf(fmt.Sprintf(src, "a default 0"), "", "")
	b, _ := Feature(c, "b")
	d, _ := Feature(c, "d")
	if features, tables := Uses(c, b.Body); shown(features) != "[a c]" || shown(tables) != "[clicks]" {
		t.Error("P12.3: the body of b uses", features, tables)
	}
	if features, tables := Uses(c, d.Body); shown(features) != "[e k]" || len(tables) != 0 {
		t.Error("P12.3: the body of d uses", features, tables)
	}
	if l := Order(c); shown(l) != "[a c b d]" {
		t.Error("P12.4: the order is", l)
	}
	if l := Cycle(c); len(l) != 0 {
		t.Error("P12.4: there is the cycle", l)
	}
	c = catalogOf(strings.Replace(fmt.Sprintf(src, "a default 0"), "count(clicks, all)", "c + 1", 1), "", "")
	if l := Cycle(c); shown(l) != "[a c]" {
		t.Error("P12.4: the cycle is", l)
	}
}

// P12.1 to P12.5: no function changes what it was given, not even behind the ends of the lists.
func TestArguments(t *testing.T) {
	full := base()
	full.Features = append(full.Features, feature("a", uses("b", "a", "c")))
	for _, x := range []api.Expr{expr("c + sum(orders, amount, all where ok) * 2 [eur*h^-1]"), expr("k of (h)"), uses("k", "missing")} {
		c := full
		c.Tables, c.Features, c.Drafts, c.Past = c.Tables[:2], c.Features[:7], c.Drafts[:2], c.Past[:3]
		y := x
		y.Args = x.Args[:1]
		for _, given := range []api.Catalog{full, c, base()} {
			before := shown(given) + shown(full) + shown(x)
			for _, name := range []string{"b", "clicks", "m", "missing", ""} {
				everyFunction(given, name, x)
				first := shown(everyFunction(given, name, y))
				if again := shown(everyFunction(given, name, y)); again != first {
					t.Fatal("the results of two calls differ:", first, again)
				}
			}
			if after := shown(given) + shown(full) + shown(x); after != before {
				t.Fatal("the arguments changed:", before, after)
			}
		}
	}
}

// P12.1 to P12.5: every call terminates for catalogs of the strangest kinds.
func TestStrangeCatalogs(t *testing.T) {
	strange := api.Expr{Kind: -7, Op: "?", Args: []api.Expr{{}, {Kind: api.AggE}, {Kind: api.LookupE}, {Kind: 99, Args: []api.Expr{{Kind: api.FeatureE, Args: []api.Expr{{}}}}}}}
	deep := uses("b")
	for range 10000 {
		deep = api.Expr{Kind: api.UnaryE, Op: "-", Args: []api.Expr{deep}}
	}
	features := []api.Feature{{}, {Body: strange}, {Name: "b", Body: deep}, {Version: -1}}
	for i, row := range []struct {
		c    api.Catalog
		want api.Errno
	}{
		{api.Catalog{}, api.OK}, {api.Catalog{Tables: make([]api.Table, 2), Features: features, Drafts: features, Past: features}, api.ErrForm}, {api.Catalog{Tables: make([]api.Table, 100)}, api.ErrLimit},
		{api.Catalog{Features: features[:1]}, api.ErrArg}, {api.Catalog{Features: features[1:]}, api.ErrArg}, {api.Catalog{Features: []api.Feature{feature("b", deep)}}, api.ErrLimit}, {api.Catalog{Features: make([]api.Feature, 100)}, api.ErrLimit},
		{api.Catalog{Drafts: features}, api.ErrArg}, {api.Catalog{Drafts: []api.Feature{feature("b", strange)}}, api.ErrForm}, {api.Catalog{Past: features}, api.ErrArg}, {api.Catalog{Past: []api.Feature{feature("b", deep)}}, api.ErrLimit},
	} {
		for _, x := range []api.Expr{{}, strange, deep} {
			everyFunction(row.c, "", x)
		}
		checkCode(t, fmt.Sprint("the strange definitions of row ", i), row.c, row.want)
	}
}

// manyNames returns n names in increasing order.
func manyNames(n int) (l []string) {
	for i := range n {
		l = append(l, fmt.Sprintf("f%06d", i))
	}
	return l
}

// P12.3, P12.4: catalogs of many features, each of which uses the next one, with and without a way back.
func TestManyFeatures(t *testing.T) {
	names := manyNames(600)
	var c api.Catalog
	for i, name := range names {
		c.Features = append(c.Features, feature(name, uses(names[min(i+1, len(names)-1):][:1]...)))
	}
	last := len(names) - 1
	c.Features[last].Body = expr("count(t, all)")
	if features, tables := Uses(c, uses(names[0])); shown(features) != shown(names) || shown(tables) != "[t]" {
		t.Error("P12.3: a long chain uses", len(features), tables)
	}
	if l := Cycle(c); len(l) != 0 {
		t.Error("P12.4: a long chain has a cycle of", len(l))
	}
	backwards := slices.Clone(names)
	slices.Reverse(backwards)
	if l := Order(c); shown(l) != shown(backwards) {
		t.Error("P12.4: the order of a long chain has", len(l))
	}
	c.Features[last].Body = uses(names[0])
	if l := Cycle(c); shown(l) != shown(names) {
		t.Error("P12.4: the cycle of a long ring has", len(l))
	}
	if l := Order(c); len(l) != 0 {
		t.Error("P12.4: the order of a long ring has", len(l))
	}
	c.Features[last].Body = uses(names[300])
	if l := Cycle(c); shown(l) != shown(names[300:]) {
		t.Error("P12.4: the cycle at the end of a chain has", len(l))
	}
}
