package catalog

import (
	"testing"

	"asof/api"
)

// checkFinds compares Table, Feature and Draft of a name with the elements of these indices; with zero values for -1.
func checkFinds(t *testing.T, c api.Catalog, name string, table, feature, draft int) {
	t.Helper()
	var wantTable api.Table
	var wantFeature, wantDraft api.Feature
	if table >= 0 {
		wantTable = c.Tables[table]
	}
	if feature >= 0 {
		wantFeature = c.Features[feature]
	}
	if draft >= 0 {
		wantDraft = c.Drafts[draft]
	}
	if got, ok := Table(c, name); ok != (table >= 0) || shown(got) != shown(wantTable) {
		t.Errorf("P12.2: Table of %q returns %+v and %t", name, got, ok)
	}
	if got, ok := Feature(c, name); ok != (feature >= 0) || shown(got) != shown(wantFeature) {
		t.Errorf("P12.2: Feature of %q returns %+v and %t", name, got, ok)
	}
	if got, ok := Draft(c, name); ok != (draft >= 0) || shown(got) != shown(wantDraft) {
		t.Errorf("P12.2: Draft of %q returns %+v and %t", name, got, ok)
	}
}

// P12.2: names that are there once, and names that are not there, in a valid catalog.
func TestFind(t *testing.T) {
	c := base()
	if e := Check(c); e != api.OK {
		t.Fatal("the catalog has the code", e)
	}
	for i, v := range c.Tables {
		checkFinds(t, c, v.Name, i, -1, -1)
	}
	checkFinds(t, c, "b", -1, 0, 0)
	for i, f := range c.Features[1:] {
		checkFinds(t, c, f.Name, -1, i+1, -1)
	}
	checkFinds(t, c, "m", -1, -1, 1)
	checkFinds(t, c, "z", -1, -1, 2)
	for _, name := range append([]string{"gone", "user", "shop", "n", "amount", "lost", "missing", "click", "clicksx", "bb", "Clicks", longName}, wrongNames...) {
		checkFinds(t, c, name, -1, -1, -1)
		checkFinds(t, api.Catalog{}, name, -1, -1, -1)
	}
}

// P12.2: of several elements with one name the first one counts, also in catalogs that are not valid.
func TestFindFirst(t *testing.T) {
	var c api.Catalog
	names := []string{"b", "a", "", "b", "of", "b", "", "c", "A b", "c"}
	for i, name := range names {
		c.Tables = append(c.Tables, api.Table{Name: name, Keep: i + 1})
		c.Past = append(c.Past, api.Feature{Name: "p" + name, Version: i})
	}
	for i, name := range names[2:] {
		c.Features = append(c.Features, api.Feature{Name: name, Version: i, Body: uses("a")})
	}
	for i, name := range names[4:] {
		c.Drafts = append(c.Drafts, api.Feature{Name: name, Version: -i, Type: api.Type{Kind: i}})
	}
	for _, row := range []struct {
		name                  string
		table, feature, draft int
	}{{"a", 1, -1, -1}, {"b", 0, 1, 1}, {"", 2, 0, 2}, {"of", 4, 2, 0}, {"c", 7, 5, 3}, {"A b", 8, 6, 4}, {"A", -1, -1, -1}, {"pb", -1, -1, -1}, {"p", -1, -1, -1}} {
		checkFinds(t, c, row.name, row.table, row.feature, row.draft)
	}
}

// scribble changes all that x refers to.
func scribble(x api.Expr) {
	for i := range x.Unit {
		x.Unit[i] = api.Factor{Name: "scribbled", Exp: 7}
	}
	for i := range x.Args {
		scribble(x.Args[i])
		x.Args[i] = api.Expr{Kind: api.FeatureE, Name: "scribbled"}
	}
}

// P12.2 to P12.4: results share no memory with the catalog, nor with other results.
func TestNewMemory(t *testing.T) {
	src := "table t of user { n: int [h], price: dec [eur*h^-1] }; feature f of user: dec [eur*h^-1] = sum(t, price, all where n < 3 [h]) default 2.5 [eur*h^-1];"
	c := catalogOf(src, src, src)
	before := shown(c)
	table, _ := Table(c, "t")
	f, _ := Feature(c, "f")
	d, _ := Draft(c, "f")
	again := []any{c.Tables[0], c.Features[0], c.Drafts[0]}
	for i := range table.Fields {
		table.Fields[i].Type.Unit[0].Name = "scribbled"
		table.Fields[i] = api.Field{Name: "scribbled"}
	}
	for _, v := range []api.Feature{f, d} {
		v.Type.Unit[0].Exp = 7
		scribble(v.Body)
	}
	if shown(c) != before {
		t.Error("P12.2: a result shares memory with the catalog:", shown(c))
	}
	table, _ = Table(c, "t")
	f, _ = Feature(c, "f")
	d, _ = Draft(c, "f")
	if shown([]any{table, f, d}) != shown(again) {
		t.Error("P12.2: a result shares memory with another one")
	}
	c = inForce("b a", "a b", "c", "d e f")
	features, _ := Uses(c, uses("d", "a"))
	cycle, order := Cycle(c), Order(c)
	features[0], cycle[0], order[0] = "scribbled", "scribbled", "scribbled"
	if more, _ := Uses(c, uses("d", "a")); shown(more) != "[a b d e f]" || shown(Cycle(c)) != "[a b]" || shown(Order(c)) != "[c d]" {
		t.Error("P12.3, P12.4: a result shares memory with another one")
	}
}
