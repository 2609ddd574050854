package catalog

import (
	"fmt"
	"maps"
	"math/rand/v2"
	"slices"
	"strings"
	"testing"

	"asof/api"
	"asof/checker"
	"asof/lexer"
	"asof/parser"
	"asof/printer"
)

// needs are the names of what an expression directly uses.
type needs struct{ features, tables map[string]bool }

// newNeeds returns no names.
func newNeeds() needs { return needs{map[string]bool{}, map[string]bool{}} }

// add adds the names of n.
func (n needs) add(more needs) {
	maps.Copy(n.features, more.features)
	maps.Copy(n.tables, more.tables)
}

// text returns the names in increasing order.
func (n needs) text() string {
	return shown(slices.Sorted(maps.Keys(n.features))) + shown(slices.Sorted(maps.Keys(n.tables)))
}

// usesText returns the text of what Uses returns.
func usesText(c api.Catalog, x api.Expr) string {
	features, tables := Uses(c, x)
	return shown(features) + shown(tables)
}

// withAll returns the names in n and those that features in force with such names need, of which these are the first ones of their names.
func withAll(n needs, inForce map[string]needs) needs {
	all := newNeeds()
	all.add(n)
	for {
		known := all.text()
		for _, name := range slices.Collect(maps.Keys(all.features)) {
			if own, found := inForce[name]; found {
				all.add(own)
			}
		}
		if all.text() == known {
			return all
		}
	}
}

// P12.3: expressions of every kind, over an empty catalog.
func TestDirectUses(t *testing.T) {
	for src, want := range map[string]string{
		"1": "[][]", "true": "[][]", "2.5 [eur*h^-1]": "[][]", `"a"`: "[][]", `@user "u"`: "[][]",
		"a": "[a][]", "a of (b)": "[a b][]", `a of (@user "u")`: "[a][]", "a of (b of (c of (d)))": "[a b c d][]", "a of (a)": "[a][]",
		"-a": "[a][]", "not a": "[a][]", "null(a)": "[a][]", "null(not -a)": "[a][]",
		"b + a": "[a b][]", "b - a * c": "[a b c][]", "a / a": "[a][]", "z == y": "[y z][]", "a != 1": "[a][]", "1 < a": "[a][]", "b <= a": "[a b][]", "c and b or a": "[a b c][]",
		"if c then b else a": "[a b c][]", "if true then 1 else a": "[a][]", "if 1 then a else 2": "[a][]", "if a then 1 else 2": "[a][]", "a default b default c": "[a b c][]", "1 default a": "[a][]",
		"count(t, all)": "[][t]", "count(t, all where x < y)": "[][t]", "sum(t, x, all)": "[][t]", "mean(u, a, sliding 5)": "[][u]", "min(t, x, tumbling 5)": "[][t]", "max(t, x, session 5)": "[][t]", "first(t, x, all)": "[][t]", "last(t, x, all)": "[][t]", "distinct(t, x, all)": "[][t]", "quantile(t, x, 5, all)": "[][t]", "decay(t, x, 5, all)": "[][t]",
		"count(t, all) + count(s, all) + count(t, sliding 9)": "[][s t]", "a of (last(t, x, all)) + b of (last(s, y, all where z))": "[a b][s t]", "if count(t, all) < a then sum(s, x, all) default b else c of (last(r, x, all))": "[a b c][r s t]",
	} {
		if got := usesText(api.Catalog{}, expr(src)); got != want {
			t.Errorf("P12.3: %s uses %s, not %s", src, got, want)
		}
	}
}

// P12.3: expressions that have no proper form: only their kinds say what they directly use, and all their operands count.
func TestImproperUses(t *testing.T) {
	a, b, table := expr("a"), expr("b"), expr("count(t, all)")
	with := func(x api.Expr, args ...api.Expr) api.Expr {
		x.Args = args
		return x
	}
	all := api.Expr{Op: "count", Name: "n", Table: "u", Val: api.Value{Kind: api.KeyV, S: "k"}, Unit: []api.Factor{{Name: "h", Exp: 1}}, Param: 3, Win: api.Window{Kind: 1}}
	for kind := -2; kind <= 12; kind++ {
		x := all
		x.Kind = kind
		features, tables := []string{"a", "b"}, []string{"t"}
		switch kind {
		case api.FeatureE, api.LookupE:
			features = append(features, "n")
		case api.AggE:
			tables = append(tables, "u")
		}
		for _, y := range []api.Expr{with(x, a, b, table), with(x, with(x, with(x, table), b), a), with(api.Expr{Kind: api.AggE, Table: "t"}, b, a, api.Expr{Kind: 99}, x), with(api.Expr{Kind: 77}, a, with(api.Expr{}, with(b, table), x))} {
			if got, want := usesText(api.Catalog{}, y), shown(features)+shown(tables); got != want {
				t.Errorf("P12.3: the kind %d: %s, not %s", kind, got, want)
			}
		}
	}
	inside := with(api.Expr{Kind: api.AggE, Table: "t"}, expr("a of (b + count(s, all))"), with(expr("count(r, all where x)"), expr("c"), expr("d")))
	if got := usesText(api.Catalog{}, inside); got != "[a b c d][r s t]" {
		t.Error("P12.3: inside of aggregates:", got)
	}
	if got := usesText(api.Catalog{}, with(api.Expr{Kind: api.AggE}, api.Expr{Kind: api.LookupE}, api.Expr{Kind: api.FeatureE, Name: "A b"})); got != "[ A b][]" {
		t.Error("P12.3: names that are none:", got)
	}
}

// P12.3: what features in force use, in chains, through cycles, and of several ones with one name.
func TestUsesThroughFeatures(t *testing.T) {
	src := "table t of user { }; feature a of user: int = b; feature b of user: int = c + missing; feature c of user: int = count(t, all) + d of (last(lost, x, all)); feature q of user: int = r; feature r of user: int = q + count(rows, all); feature s of user: int = s; feature w of user: int = m + p;"
	others := "feature m of user: int = a + count(other, all); feature a of user: int = count(other, all);"
	c := catalogOf(src, others, strings.ReplaceAll(others, "feature m", "feature p"))
	for x, want := range map[string]string{
		"1": "[][]", "a": "[a b c d missing][lost t]", "b": "[b c d missing][lost t]", "c": "[c d][lost t]", "d": "[d][]", "missing": "[missing][]", "t": "[t][]", "user": "[user][]",
		"q": "[q r][rows]", "r": "[q r][rows]", "s": "[s][]", "s + q + count(z, all)": "[q r s][rows z]", "m": "[m][]", "p": "[p][]", "w": "[m p w][]", "m + a": "[a b c d m missing][lost t]",
		`a of (@user "k")`: "[a b c d missing][lost t]", "z of (c)": "[c d z][lost t]", "count(a, all)": "[][a]", "sum(q, r, all where s)": "[][q]", "count(t, all) + c": "[c d][lost t]", "if 1 then 2 else s of (b)": "[b c d missing s][lost t]",
	} {
		if got := usesText(c, expr(x)); got != want {
			t.Errorf("P12.3: %s uses %s, not %s", x, got, want)
		}
	}
	two := inForce("a b", "a c", "c d", "b", "c e", "b f")
	for name, want := range map[string]string{"a": "[a b]", "b": "[b]", "c": "[c d]", "d": "[d]"} {
		if features, _ := Uses(two, uses(name)); shown(features) != want {
			t.Errorf("P12.3: %s uses %s, not %s", name, features, want)
		}
	}
	upside := api.Catalog{Features: slices.Clone(two.Features)}
	slices.Reverse(upside.Features)
	if features, _ := Uses(upside, uses("a")); shown(features) != "[a c e]" {
		t.Error("P12.3: the first ones of several features do not count:", features)
	}
}

// grow returns an expression of any kinds, by chance, with what it directly uses.
func grow(r *rand.Rand, names []string, depth int) (x api.Expr, n needs) {
	n = newNeeds()
	kind := pick(r, []int{r.IntN(12), api.FeatureE, api.LookupE, api.AggE})
	x = api.Expr{Kind: kind, Name: pick(r, names), Table: pick(r, names), Op: pick(r, []string{"", "+", "count", "-"})}
	switch x.Kind {
	case api.FeatureE, api.LookupE:
		n.features[x.Name] = true
	case api.AggE:
		n.tables[x.Table] = true
	}
	if depth > 1 {
		for range r.IntN(4) {
			arg, more := grow(r, names, depth-1)
			x.Args = append(x.Args, arg)
			n.add(more)
		}
	}
	return x, n
}

// grownCatalog returns a catalog by chance, with what the features in force directly use.
func grownCatalog(r *rand.Rand, names []string) (c api.Catalog, own map[string]needs) {
	own = map[string]needs{}
	for range r.IntN(12) {
		x, n := grow(r, names, 1+r.IntN(3))
		f := api.Feature{Name: pick(r, names), Body: x, Version: r.IntN(3)}
		c.Features = append(c.Features, f)
		if _, found := own[f.Name]; !found {
			own[f.Name] = n
		}
		c.Drafts = append(c.Drafts, api.Feature{Name: pick(r, names), Body: x})
		c.Past = append(c.Past, api.Feature{Name: pick(r, names), Body: x})
		c.Tables = append(c.Tables, api.Table{Name: pick(r, names)})
	}
	return c, own
}

// P12.3, P12.6: expressions and catalogs by chance, valid or not.
func TestUsesByChance(t *testing.T) {
	r := random(3)
	names := []string{"", "a", "aa", "b", "B", "c", "c d", "of", "x_1", "y", "z", "zz"}
	long, none := 0, 0
	for range 20000 {
		c, own := grownCatalog(r, names)
		x, n := grow(r, names, 1+r.IntN(4))
		want := withAll(n, own)
		if got := usesText(c, x); got != want.text() {
			t.Fatalf("P12.3: %+v uses %s over %+v, not %s", x, got, c, want.text())
		}
		if len(want.features) > len(n.features)+2 {
			long++
		}
		features, tables := Uses(c, x)
		for _, name := range features {
			f, ok := Feature(c, name)
			more, moreTables := Uses(c, f.Body)
			if !ok && len(more)+len(moreTables) > 0 || shown(slices.Compact(slices.Sorted(slices.Values(append(more, features...))))) != shown(features) || shown(slices.Compact(slices.Sorted(slices.Values(append(moreTables, tables...))))) != shown(tables) {
				t.Fatalf("P12.6: %+v uses %s, but not what this uses: %s and %s", x, name, more, moreTables)
			}
		}
		if len(n.features) == 0 {
			none++
			if len(features) != 0 || shown(tables) != shown(slices.Sorted(maps.Keys(n.tables))) {
				t.Fatalf("P12.6: %+v names no feature, but uses %s and %s", x, features, tables)
			}
		}
	}
	if long < 1000 || none < 1000 {
		t.Error("few expressions with long ways, or without features:", long, none)
	}
}

// author writes expressions of proper form by chance, and notes what they directly use.
type author struct {
	r      *rand.Rand
	names  []string
	needed needs
}

// write returns the source of an expression of at most this depth, inside or outside of an aggregate.
func (a author) write(depth int, inside bool) string {
	if depth <= 1 {
		return a.leaf(inside)
	}
	arg := func() string { return "(" + a.write(depth-1, inside) + ")" }
	switch k := a.r.IntN(9); {
	case k < 2:
		return pick(a.r, []string{"-", "not ", "null"}) + arg()
	case k < 4:
		return arg() + pick(a.r, strings.Fields(" + - * / == != < <= and or default")) + arg()
	case k == 4:
		return "if " + arg() + " then " + arg() + " else " + arg()
	case inside || k == 5:
		return a.leaf(inside)
	case k == 6:
		return a.feature() + " of " + arg()
	}
	return a.aggregate(depth - 1)
}

// leaf returns a literal, or the name of a field or of a feature.
func (a author) leaf(inside bool) string {
	name := pick(a.r, a.names)
	switch a.r.IntN(3) {
	case 0:
		return pick(a.r, []string{"1", "2.5", "7 [h]", "true", `"a b"`, `@` + name + ` "k"`, "0.25 [" + name + "^-2]"})
	case 1:
		if !inside {
			return a.feature()
		}
	}
	if inside {
		return name
	}
	return "1"
}

// feature returns the name of a feature.
func (a author) feature() string {
	name := pick(a.r, a.names)
	a.needed.features[name] = true
	return name
}

// aggregate returns an aggregate with operands of at most this depth.
func (a author) aggregate(depth int) string {
	table := pick(a.r, a.names)
	a.needed.tables[table] = true
	end := ", " + pick(a.r, []string{"all", "sliding 5", "tumbling 60", "session 3"}) + pick(a.r, []string{"", " where " + a.write(depth, true)}) + ")"
	if a.r.IntN(4) == 0 {
		return "count(" + table + end
	}
	op, param, _ := strings.Cut(pick(a.r, strings.Fields("sum mean min max first last distinct quantile,_500 decay,_9")), ",")
	if param != "" {
		end = ", " + param[1:] + end
	}
	return op + "(" + table + ", " + a.write(depth, true) + end
}

// aggregates are the words of aggregates.
var aggregates = strings.Fields("count sum mean min max first last distinct quantile decay")

// namesInText returns what an expression with this text directly uses, by its tokens alone.
func namesInText(text string) (n needs) {
	n = newNeeds()
	tokens, _, _ := lexer.Tokens([]byte(text))
	pairs, within := 0, 0 // the pairs of parentheses that are open, and the number of them before an aggregate, or 0
	unit := false
	for i, t := range tokens {
		before := ""
		if i > 0 {
			before = tokens[i-1].Text
		}
		switch {
		case t.Kind == api.TokWord && slices.Contains(aggregates, t.Text):
			within = pairs + 1
			n.tables[tokens[i+2].Text] = true
		case t.Text == "(":
			pairs++
		case t.Text == ")":
			if within == pairs {
				within = 0
			}
			pairs--
		case t.Text == "[" || t.Text == "]":
			unit = t.Text == "["
		case t.Kind == api.TokWord && lexer.Name(t.Text) && within == 0 && !unit && before != "@":
			n.features[t.Text] = true
		}
	}
	return n
}

// P12.3, P12.9: expressions of proper form by chance use the same as what the parser returns from their texts.
func TestUsesOfTexts(t *testing.T) {
	r := random(9)
	names := []string{"a", "b", "c", "counts", "d", "e", longName}
	proper, rich := 0, 0
	for range 6000 {
		a := author{r, names, newNeeds()}
		x, at, e := parser.Expr([]byte(a.write(2+r.IntN(7), false)))
		if e != api.OK {
			t.Fatal("the source of an expression has the code", e, at)
		}
		text, e := printer.Expr(x)
		if e != api.OK {
			continue
		}
		proper++
		c, own := grownCatalog(r, names)
		again := expr(text)
		direct := namesInText(text)
		want := withAll(direct, own).text()
		if got, other := usesText(c, x), usesText(c, again); got != other || got != want {
			t.Fatalf("P12.9: %s uses %s, but after printing and parsing %s, and by its names %s", text, got, other, want)
		}
		if got := usesText(api.Catalog{}, x); got != usesText(api.Catalog{}, again) || got != direct.text() || got != a.needed.text() {
			t.Fatalf("P12.9: %s directly uses %s, not %s", text, got, direct.text())
		}
		if len(direct.features) > 1 && len(direct.tables) > 1 {
			rich++
		}
	}
	if proper < 3000 || rich < 500 {
		t.Error("few expressions of proper form, or few with many names:", proper, rich)
	}
}

// P12.9: the same for expressions written out, over a catalog.
func TestUsesOfTextRows(t *testing.T) {
	c := base()
	for _, src := range []string{"b", "c", "k of ((h))", "((b)+(c))", "sum ( orders,amount , all where ok and not(ok) )", "if(b<1)then(c)else-(d)", "e default 0.5[eur]", "g of(@shop\"s\")", fmt.Sprint("null(", longName, ")")} {
		x := expr(src)
		text, e := printer.Expr(x)
		if e != api.OK || usesText(c, x) != usesText(c, expr(text)) || checker.Shape(x) != api.OK {
			t.Errorf("P12.9: %s and %s use %s and %s", src, text, usesText(c, x), usesText(c, expr(text)))
		}
	}
}
