package catalog

import (
	"fmt"
	"math"
	"slices"
	"strings"
	"testing"

	"asof/api"
)

// fault breaks a rule of the base catalog.
type fault struct {
	what  string
	e     api.Errno
	apply func(c *api.Catalog)
}

// copied returns a copy of c with lists of its own.
func copied(c api.Catalog) api.Catalog {
	return api.Catalog{Tables: slices.Clone(c.Tables), Features: slices.Clone(c.Features), Drafts: slices.Clone(c.Drafts), Past: slices.Clone(c.Past)}
}

// fields returns a table's fields with these names and the type int.
func fields(names ...string) (l []api.Field) {
	for _, name := range names {
		l = append(l, api.Field{Name: name, Type: api.Type{Kind: api.IntV}})
	}
	return l
}

// limitFaults returns the faults of catalogs that are too large.
func limitFaults() []fault {
	return []fault{
		{"many tables", api.ErrLimit, func(c *api.Catalog) { c.Tables = slices.Repeat(c.Tables, 6) }},
		{"many features", api.ErrLimit, func(c *api.Catalog) { c.Features = slices.Repeat(c.Features, 5) }},
		{"many drafts", api.ErrLimit, func(c *api.Catalog) { c.Drafts = slices.Repeat(c.Drafts, 11) }},
		{"many past versions", api.ErrLimit, func(c *api.Catalog) { c.Past = slices.Repeat(c.Past, 9) }},
	}
}

// tableFaults returns the faults of the table i, in the order in which they are found.
func tableFaults(i int) (l []fault) {
	add := func(what string, e api.Errno, change func(t *api.Table)) {
		l = append(l, fault{fmt.Sprint("table ", i, " ", what), e, func(c *api.Catalog) { change(&c.Tables[i]) }})
	}
	add("name", api.ErrForm, func(t *api.Table) { t.Name = "Clicks" })
	add("entity", api.ErrForm, func(t *api.Table) { t.Entity = "of" })
	add("keep", api.ErrForm, func(t *api.Table) { t.Keep = -1 })
	add("fields", api.ErrLimit, func(t *api.Table) { t.Fields = fields(strings.Fields("q r s t u v w x y")...) })
	add("field taken", api.ErrTaken, func(t *api.Table) { t.Fields = fields("x", "x") })
	add("field unit", api.ErrUnit, func(t *api.Table) {
		t.Fields = []api.Field{{Name: "x", Type: api.Type{Kind: api.IntV, Unit: []api.Factor{{Name: "h"}}}}}
	})
	if i > 0 {
		add("order", api.ErrArg, func(t *api.Table) { t.Name = "a" })
		l = append(l, fault{fmt.Sprint("table ", i, " repeated"), api.ErrArg, func(c *api.Catalog) { c.Tables[i].Name = c.Tables[i-1].Name }})
	}
	return l
}

// tooDeep returns an expression that is too deep.
func tooDeep() api.Expr {
	x := expr("b")
	for range api.MaxDepth {
		x = api.Expr{Kind: api.UnaryE, Op: "-", Args: []api.Expr{x}}
	}
	return x
}

// featuresOf, draftsOf and pastOf lead to the lists of features of a catalog.
var (
	featuresOf = func(c *api.Catalog) []api.Feature { return c.Features }
	draftsOf   = func(c *api.Catalog) []api.Feature { return c.Drafts }
	pastOf     = func(c *api.Catalog) []api.Feature { return c.Past }
)

// formFaults returns the faults of the element i of a list by itself, in the order in which they are found.
func formFaults(name string, of func(c *api.Catalog) []api.Feature, i int) (l []fault) {
	add := func(what string, e api.Errno, change func(f *api.Feature)) {
		l = append(l, fault{fmt.Sprint(name, " ", i, " ", what), e, func(c *api.Catalog) { change(&of(c)[i]) }})
	}
	add("name", api.ErrArg, func(f *api.Feature) { f.Name = "count" })
	add("entity", api.ErrArg, func(f *api.Feature) { f.Entity = "" })
	add("version", api.ErrArg, func(f *api.Feature) { f.Version = 0 })
	add("late version", api.ErrArg, func(f *api.Feature) { f.Version = api.MaxTick + 1 })
	add("type", api.ErrForm, func(f *api.Feature) { f.Type = api.Type{Kind: api.BoolV, Of: "user"} })
	add("unit", api.ErrUnit, func(f *api.Feature) {
		f.Type = api.Type{Kind: api.DecV, Unit: []api.Factor{{Name: "if", Exp: 1}}}
	})
	add("depth", api.ErrLimit, func(f *api.Feature) { f.Body = tooDeep() })
	add("form", api.ErrForm, func(f *api.Feature) { f.Body = api.Expr{Kind: api.FieldE, Name: "n"} })
	return l
}

// placeFaults returns the faults of the element i of a list beside those before it, in the order in which they are found.
func placeFaults(name string, of func(c *api.Catalog) []api.Feature, i int) (l []fault) {
	if i > 0 {
		l = append(l, fault{fmt.Sprint(name, " ", i, " order"), api.ErrArg, func(c *api.Catalog) { of(c)[i].Name = "a" }})
	}
	if i > 0 && name != "past" {
		l = append(l, fault{fmt.Sprint(name, " ", i, " repeated"), api.ErrArg, func(c *api.Catalog) { of(c)[i].Name, of(c)[i].Version = of(c)[i-1].Name, of(c)[i-1].Version }})
	}
	// The drafts begin with a version of the first feature in force, the past versions with two of it.
	take := func(from func(c *api.Catalog) []api.Feature) {
		l = append(l, fault{fmt.Sprint(name, " ", i, " taken"), api.ErrTaken, func(c *api.Catalog) { of(c)[i].Version = from(c)[0].Version }})
	}
	if name == "drafts" && i == 0 || name == "past" && i <= 1 {
		take(featuresOf)
	}
	if name == "past" && i <= 1 {
		take(draftsOf)
	}
	if name == "past" && i == 1 {
		take(pastOf)
	}
	return l
}

// fitFaults returns the faults of the feature i beside the definitions that it names.
func fitFaults(i int) (l []fault) {
	add := func(what string, e api.Errno, body string) {
		l = append(l, fault{fmt.Sprint("feature ", i, " ", what), e, func(c *api.Catalog) { c.Features[i].Body = expr(body) }})
	}
	add("names no feature", api.ErrNone, "missing")
	add("names no table", api.ErrNone, "count(missing, all)")
	add("type", api.ErrType, "true")
	switch base().Features[i].Type.Kind {
	case api.IntV:
		add("unit", api.ErrUnit, "1 [m]")
	case api.DecV:
		add("unit", api.ErrUnit, "1.0 [m]")
	}
	return l
}

// loopFault makes the feature i use itself, which is found after all else.
func loopFault(i int) fault {
	return fault{fmt.Sprint("feature ", i, " loop"), api.ErrCycle, func(c *api.Catalog) {
		c.Features[i].Body = api.Expr{Kind: api.FeatureE, Name: c.Features[i].Name}
	}}
}

// allFaults returns faults of every kind, in the order in which they are found.
func allFaults() (l []fault) {
	c := base()
	l = limitFaults()
	for i := range c.Tables {
		l = append(l, tableFaults(i)...)
	}
	for _, list := range []struct {
		name string
		of   func(c *api.Catalog) []api.Feature
	}{{"features", featuresOf}, {"drafts", draftsOf}, {"past", pastOf}} {
		for i := range list.of(&c) {
			l = append(l, formFaults(list.name, list.of, i)...)
			l = append(l, placeFaults(list.name, list.of, i)...)
		}
	}
	for i := range c.Features {
		l = append(l, fitFaults(i)...)
	}
	for i := range c.Features {
		l = append(l, loopFault(i))
	}
	return l
}

// checkCode compares Check and the error of Digest with what they should return.
func checkCode(t *testing.T, what string, c api.Catalog, want api.Errno) {
	t.Helper()
	if e := Check(c); e != want {
		t.Errorf("P12.1: Check of a catalog with %s returns %d, not %d", what, e, want)
	}
	if h, e := Digest(c); e != want || want != api.OK && h != 0 {
		t.Errorf("P12.5: Digest of a catalog with %s returns %d and %d, not %d", what, h, e, want)
	}
}

// P12.1, P12.5: each fault alone, and each beside each one that is found after it.
func TestFaults(t *testing.T) {
	checkCode(t, "no faults", base(), api.OK)
	l := allFaults()
	found := map[api.Errno]int{}
	valid := base()
	for i, first := range l {
		c := copied(valid)
		first.apply(&c)
		checkCode(t, first.what, c, first.e)
		found[first.e]++
		for _, second := range l[i+1:] {
			c = copied(valid)
			second.apply(&c)
			first.apply(&c)
			if e := Check(c); e != first.e {
				t.Fatalf("P12.1: Check of a catalog with %s and %s returns %d, not %d", first.what, second.what, e, first.e)
			}
		}
	}
	for _, e := range []api.Errno{api.ErrArg, api.ErrLimit, api.ErrForm, api.ErrNone, api.ErrType, api.ErrUnit, api.ErrCycle, api.ErrTaken} {
		if found[e] < 3 {
			t.Error("few faults with the code", e)
		}
	}
}

// P12.1: names and entities of features in each list, that are names and that are none.
func TestNames(t *testing.T) {
	for _, of := range []func(c *api.Catalog) []api.Feature{featuresOf, draftsOf, pastOf} {
		for _, name := range append([]string{"a", "x_", "u7", "counts", "tables", longName}, wrongNames...) {
			want := api.OK
			if !isName(name) {
				want = api.ErrArg
			}
			body := expr("1")
			c := api.Catalog{Features: []api.Feature{feature("f", body)}, Drafts: []api.Feature{feature("d", body)}, Past: []api.Feature{feature("p", body)}}
			of(&c)[0].Name = name
			checkCode(t, fmt.Sprintf("the name %q", name), c, want)
			of(&c)[0].Name, of(&c)[0].Entity = "q", name
			checkCode(t, fmt.Sprintf("the entity %q", name), c, want)
		}
	}
}

// P12.1: the edges of versions in each list.
func TestVersions(t *testing.T) {
	for _, of := range []func(c *api.Catalog) []api.Feature{featuresOf, draftsOf, pastOf} {
		for version, want := range map[int]api.Errno{
			math.MinInt: 1, -1: 1, 0: 1, 1: 0, 2: 0, 1 << 32: 0, 1<<40 - 1: 0, 1 << 40: 0, 1<<40 + 1: 1, math.MaxInt: 1,
		} {
			for i := range 3 {
				c := base()
				c.Past[0].Version, c.Past[1].Version, c.Features[0].Version, c.Drafts[0].Version = 11, 12, 13, 14
				of(&c)[i].Version = version
				checkCode(t, fmt.Sprint("the version ", version), c, want)
			}
		}
	}
}

// sized returns a catalog with these numbers of tables, of features in force, of drafts and of past versions.
func sized(tables, features, drafts, past int) (c api.Catalog) {
	for _, name := range manyNames(tables) {
		c.Tables = append(c.Tables, api.Table{Name: name, Entity: "user"})
	}
	list := func(n, version int) (l []api.Feature) {
		for _, name := range manyNames(n) {
			f := feature(name, expr("1"))
			f.Version = version
			l = append(l, f)
		}
		return l
	}
	c.Features, c.Drafts, c.Past = list(features, 2), list(drafts, 3), list(past, 1)
	return c
}

// P12.1: the limits of catalogs.
func TestLimits(t *testing.T) {
	for _, row := range [][5]int{
		{0, 0, 0, 0, 0}, {1, 0, 0, 0, 0}, {0, 1, 0, 0, 0}, {0, 0, 1, 0, 0}, {0, 0, 0, 1, 0}, {15, 31, 31, 31, 0}, {16, 32, 32, 32, 0}, {16, 0, 0, 0, 0}, {0, 32, 0, 0, 0}, {0, 0, 32, 0, 0}, {0, 0, 0, 32, 0},
		{17, 0, 0, 0, 2}, {0, 33, 0, 0, 2}, {0, 0, 33, 0, 2}, {0, 0, 0, 33, 2}, {17, 32, 32, 32, 2}, {16, 33, 32, 32, 2}, {16, 32, 33, 32, 2}, {16, 32, 32, 33, 2}, {1000, 0, 0, 0, 2}, {0, 1000, 1000, 1000, 2},
	} {
		checkCode(t, fmt.Sprint("the sizes ", row[:4]), sized(row[0], row[1], row[2], row[3]), api.Errno(row[4]))
	}
	checkCode(t, "17 wrong tables", api.Catalog{Tables: make([]api.Table, 17)}, api.ErrLimit)
	checkCode(t, "33 wrong features", api.Catalog{Features: make([]api.Feature, 33)}, api.ErrLimit)
	checkCode(t, "33 wrong drafts beside a wrong table", api.Catalog{Tables: make([]api.Table, 1), Drafts: make([]api.Feature, 33)}, api.ErrLimit)
	checkCode(t, "33 wrong past versions beside a cycle", api.Catalog{Features: inForce("a a").Features, Past: make([]api.Feature, 33)}, api.ErrLimit)
	checkCode(t, "a wrong table beside 32 wrong features", api.Catalog{Tables: make([]api.Table, 1), Features: make([]api.Feature, 32)}, api.ErrForm)
	checkCode(t, "32 wrong features", api.Catalog{Features: make([]api.Feature, 32)}, api.ErrArg)
}

// named returns features with these names and versions, written as in "a1 b2".
func named(rows string) (l []api.Feature) {
	for _, row := range strings.Fields(rows) {
		f := feature(row[:1], expr("1"))
		f.Version = int(row[1] - '0')
		l = append(l, f)
	}
	return l
}

// P12.1: the order of the names, and names and versions that are in use.
func TestPlaces(t *testing.T) {
	for _, row := range []struct {
		features, drafts, past string
		e                      api.Errno
	}{
		{"a1 b1 c1", "", "", api.OK}, {"", "a1 b1 c1", "", api.OK}, {"", "", "a1 b1 c1", api.OK},
		{"b1 a1", "", "", api.ErrArg}, {"", "b1 a1", "", api.ErrArg}, {"", "", "b1 a1", api.ErrArg},
		{"a1 c1 b1", "", "", api.ErrArg}, {"", "a1 c1 b1", "", api.ErrArg}, {"", "", "a1 c1 b1", api.ErrArg},
		{"a1 a2", "", "", api.ErrArg}, {"", "a1 a2", "", api.ErrArg}, {"", "", "a1 a2", api.OK}, {"", "", "a2 a1", api.OK}, {"", "", "a1 a2 b2 b1 c3", api.OK},
		{"a1 a1", "", "", api.ErrArg}, {"", "a1 a1", "", api.ErrArg}, {"", "", "a1 a1", api.ErrTaken}, {"", "", "a1 a2 a1", api.ErrTaken}, {"", "", "a1 b1 b2 b1", api.ErrTaken}, {"", "", "a1 a2 b1 a2", api.ErrArg},
		{"a1", "a2", "a3", api.OK}, {"a3", "a1", "a2", api.OK}, {"a1", "b1", "c1", api.OK}, {"c1", "b1", "a1", api.OK}, {"b1 c1", "a1 d1", "a2 b2", api.OK},
		{"a1", "a1", "", api.ErrTaken}, {"a1", "", "a1", api.ErrTaken}, {"", "a1", "a1", api.ErrTaken}, {"a1", "a2", "a2", api.ErrTaken}, {"a1", "a2", "a1", api.ErrTaken}, {"a1", "a2", "a3 a4 a1", api.ErrTaken},
		{"a1 b1 c1", "b2 c1", "", api.ErrTaken}, {"a1 b1 c1", "a2 b1", "", api.ErrTaken}, {"a1 b1 c1", "", "a2 a3 c1", api.ErrTaken}, {"", "a1 b1 c1", "b1", api.ErrTaken},
		{"a1", "a1 a0", "", api.ErrTaken}, {"a1", "b1 a1", "", api.ErrArg}, {"a1", "a2 a0", "", api.ErrArg}, {"a1", "a1", "a0", api.ErrTaken}, {"a1", "", "b1 a1", api.ErrArg},
	} {
		c := api.Catalog{Features: named(row.features), Drafts: named(row.drafts), Past: named(row.past)}
		checkCode(t, shown(row), c, row.e)
	}
	for i, row := range []struct {
		names string
		e     api.Errno
	}{{"a", 0}, {"a b c", 0}, {"a aa ab b", 0}, {"b a", 1}, {"a a", 1}, {"a c b", 1}, {"a b b", 1}, {"a b a", 1}, {"aa a", 1}, {"a B", 3}, {"b a B", 1}} {
		var c api.Catalog
		for _, name := range strings.Fields(row.names) {
			c.Tables = append(c.Tables, api.Table{Name: name, Entity: "user", Keep: i})
		}
		checkCode(t, "the tables "+row.names, c, row.e)
	}
}

// P12.1: features in force must fit the catalog, drafts and past versions need not.
func TestFit(t *testing.T) {
	tables := "table t of user { n: int, note: text, at: key shop }; table v of shop { n: int };"
	for src, want := range map[string]api.Errno{
		"feature f of user: int = 1;": 0, "feature f of user: int = count(t, all);": 0, "feature f of user: text = min(t, note, all where n < 3);": 0,
		"feature f of user: int = true;": 5, "feature f of user: int = 1 [h];": 70, "feature f of user: int [h] = 1;": 70, "feature f of user: dec = 1;": 5, "feature f of user: key user = last(t, at, all);": 5,
		"feature f of user: int = missing;": 4, "feature f of user: int = count(missing, all);": 4, "feature f of user: int = count(v, all);": 5, "feature f of user: int = sum(t, x, all);": 4, "feature f of user: int = sum(t, note, all);": 5, "feature f of user: int = 1 + 1 [h];": 70,
		"feature f of user: int = g; feature g of user: int = 1;": 0, "feature f of user: int = g; feature g of user: dec = 1.0;": 5, "feature f of user: int = g; feature g of shop: int = 1;": 5, "feature f of user: int = g; feature g of user: int [h] = 1 [h];": 70,
		"feature f of user: int = g of (last(t, at, all)); feature g of shop: int = sum(v, n, all);": 0, "feature f of user: int = f of (last(t, at, all));": 5, "feature f of user: int = g of (last(t, at, all));": 4, "feature f of user: int = g of (h); feature h of user: int = 1;": 5,
		"feature f of user: int = d;": 4, "feature f of user: int = p;": 4,
		"feature f of user: int = 1; feature g of user: int = f + h; feature h of user: int = f;": 0, "feature f of user: int = 1; feature g of user: int = f + h; feature h of user: bool = true;": 5, "feature f of user: int = 1; feature g of user: int = f; feature h of user: int = missing;": 4,
	} {
		kept := "feature d of user: int = 1;"
		c := catalogOf(tables+src, kept, strings.Replace(kept, "d", "p", 1))
		checkCode(t, src, c, want)
		declared := moduleOf(src).Features
		if want == api.OK || len(declared) > 1 {
			continue
		}
		checkCode(t, "the draft "+src, catalogOf(tables, src, ""), api.OK)
		checkCode(t, "the past version "+src, catalogOf(tables, "", src), api.OK)
		checkCode(t, "the draft and the past version "+src, catalogOf(tables+"feature f of user: int = 1;", src, src), api.OK)
	}
	checkCode(t, "features that use no table", api.Catalog{Features: base().Features}, api.ErrNone)
}

// P12.1: features in force that use themselves, also if only another one closes the cycle.
func TestCycleErrors(t *testing.T) {
	one := "feature a of user: int = 1;"
	for _, row := range []struct {
		src string
		e   api.Errno
	}{
		{"feature a of user: int = a;", 120}, {"feature a of user: int = a + 1 default 3;", 120}, {one + "feature b of user: int = a + b;", 120},
		{"feature a of user: int = b; feature b of user: int = a;", 120}, {"feature a of user: int = b; feature b of user: int = c; feature c of user: int = if true then 1 else a;", 120},
		{"feature a of user: int = 1; feature b of user: int = a; feature c of user: int = d; feature d of user: int = b default e; feature e of user: int = c;", 120},
		{"feature a of user: int = b; feature b of user: int = c; feature c of user: int = 1;", 0}, {"feature a of user: int = b + c; feature b of user: int = c + d; feature c of user: int = d; feature d of user: int = 1;", 0},
		{`feature a of user: int = r of (@shop "s"); feature r of shop: int = a of (@user "u");`, 120}, {`feature a of user: int = r of (@shop "s"); feature r of shop: int = r;`, 120},
		{"feature h of user: key user = h of (h);", 120}, {`feature h of user: key user = h of (@user "u");`, 120}, {`feature g of user: key user = h of (@user "u"); feature h of user: key user = k of (g); feature k of user: key user = @user "u";`, 120},
		{"feature a of user: int = null(a);", 5}, {"feature a of user: bool = null(a);", 120}, {"feature a of user: int = b; feature b of user: int = a; feature c of user: int = missing;", 4}, {"feature a of user: int = a; feature b of user: int = 1 [h];", 70},
	} {
		checkCode(t, row.src, catalogOf(row.src, "", ""), row.e)
		if row.e == api.ErrCycle {
			checkCode(t, "the past versions "+row.src, catalogOf("", "", row.src), api.OK)
			checkCode(t, "the drafts "+row.src, catalogOf(one, row.src, ""), api.OK)
		}
	}
	checkCode(t, "a draft that closes a cycle", catalogOf("feature a of user: int = b; feature b of user: int = 1;", "feature b of user: int = a;", "feature b of user: int = a;"), api.OK)
}
