package catalog

import (
	"fmt"
	"math/rand/v2"
	"slices"
	"strings"
	"testing"

	"asof/api"
)

// ways says which features the features in force of these names directly use.
type ways map[string][]string

// waysOf returns the ways of the catalog with these rows: the first row of a name counts.
func waysOf(rows []string) ways {
	w := ways{}
	for _, row := range rows {
		names := strings.Fields(row)
		if _, found := w[names[0]]; !found {
			w[names[0]] = names[1:]
		}
	}
	return w
}

// names returns the names in increasing order.
func (w ways) names() (l []string) {
	for name := range w {
		l = append(l, name)
	}
	slices.Sort(l)
	return l
}

// isCycle says whether each of the names directly uses the next one, and the last one the first one.
func (w ways) isCycle(l []string) bool {
	for i, name := range l {
		if !slices.Contains(w[name], l[(i+1)%len(l)]) {
			return false
		}
	}
	return len(l) > 0
}

// search returns the least cycle of n different names that begins with these ones, of which each directly uses the next one.
func (w ways) search(n int, begin []string) []string {
	if len(begin) == n {
		if w.isCycle(begin) {
			return begin
		}
		return nil
	}
	for _, name := range w.names() {
		if slices.Contains(begin, name) || len(begin) > 0 && !slices.Contains(w[begin[len(begin)-1]], name) {
			continue
		}
		if l := w.search(n, append(slices.Clone(begin), name)); l != nil {
			return l
		}
	}
	return nil
}

// cycle returns what Cycle should return: all lists of names are tried, those with the fewest names first.
func (w ways) cycle() []string {
	for n := 1; n <= len(w); n++ {
		if l := w.search(n, nil); l != nil {
			return l
		}
	}
	return nil
}

// order returns what Order should return.
func (w ways) order() (l []string) {
	canFollow := func(name string) bool {
		isMissing := func(used string) bool { return slices.Contains(w.names(), used) && !slices.Contains(l, used) }
		return !slices.Contains(l, name) && !slices.ContainsFunc(w[name], isMissing)
	}
	for {
		i := slices.IndexFunc(w.names(), canFollow)
		if i < 0 {
			return l
		}
		l = append(l, w.names()[i])
	}
}

// checkWays compares Cycle and Order of the catalog with what they should return, and checks what follows from the order.
func checkWays(t *testing.T, c api.Catalog, w ways) (cycle, order []string) {
	t.Helper()
	cycle, order = Cycle(c), Order(c)
	if want := w.cycle(); !slices.Equal(cycle, want) {
		t.Fatalf("P12.4: the cycle of %v is %v, not %v", w, cycle, want)
	}
	if want := w.order(); !slices.Equal(order, want) {
		t.Fatalf("P12.4: the order of %v is %v, not %v", w, order, want)
	}
	checkOrder(t, c, order, cycle, w.names())
	return cycle, order
}

// checkOrder checks the promise P12.7 of the order and the cycle of a catalog, whose features in force have these names.
func checkOrder(t *testing.T, c api.Catalog, order, cycle, names []string) {
	t.Helper()
	for i, name := range order {
		f, ok := Feature(c, name)
		if !ok || slices.Contains(order[:i], name) {
			t.Fatalf("P12.7: the order has %s at %d: %v", name, i, order)
		}
		used, _ := Uses(c, f.Body)
		for _, other := range used {
			if slices.Contains(names, other) && !slices.Contains(order[:i], other) {
				t.Fatalf("P12.7: %s uses %s, but the order is %v", name, other, order)
			}
		}
	}
	if (len(order) == len(names)) != (len(cycle) == 0) {
		t.Fatalf("P12.7: of %v, the order is %v and the cycle %v", names, order, cycle)
	}
	for _, name := range names {
		f, _ := Feature(c, name)
		if used, _ := Uses(c, f.Body); slices.Contains(used, name) && slices.Contains(order, name) {
			t.Fatalf("P12.7: %s uses itself, but the order is %v", name, order)
		}
	}
}

// P12.4: cycles and orders, written out. (A row "a b c" is the feature a, which directly uses b and c.)
func TestCycleRows(t *testing.T) {
	for _, row := range []struct{ rows, cycle, order string }{
		{"", "", ""}, {"a", "", "a"}, {"a a", "a", ""}, {"a x", "", "a"}, {"c,b,a", "", "a b c"}, {"b,a,c", "", "a b c"},
		{"a b,b c,c", "", "c b a"}, {"a,b a,c b", "", "a b c"}, {"a c,b,c", "", "b c a"}, {"a d,b d,c d,d", "", "d a b c"}, {"a,b a,c a,d b c", "", "a b c d"}, {"d,c d,b d,a b c", "", "d b c a"}, {"a c,b a,c,d", "", "c a b d"},
		{"a y,b z a,c b x", "", "a b c"}, {"a b b b,b", "", "b a"}, {"d a,b,a b", "", "b a d"},
		{"a b,b a", "a b", ""}, {"b a,a b", "a b", ""}, {"c d,d c", "c d", ""}, {"a c,c b,b a", "a c b", ""}, {"a b,b c,c a", "a b c", ""}, {"a d,d b,b c,c e,e a", "a d b c e", ""},
		{"a b,b c,c b", "b c", ""}, {"a b,b b", "b", ""}, {"a b c,b,c c", "c", "b"}, {"a b,b a,c,d c,e a", "a b", "c d"}, {"a x,b a,c d,d c,e b c", "c d", "a b"},
		{"a b,b a,c d,d c", "a b", ""}, {"c d,d c,b a,a b", "a b", ""}, {"a b,b a,c c", "c", ""}, {"a b,b c,c a,d e,e d", "d e", ""}, {"a b c,b a,c a", "a b", ""}, {"a c,b d,c d,d a b", "b d", ""}, {"a c,c a,b d,d b", "a c", ""},
		{"a b c,b d,c d,d a", "a b d", ""}, {"a c d,c b,d b,b a", "a c b", ""}, {"a b e,b c,c d,d a,e d", "a e d", ""}, {"a b,b c,c d a,d a", "a b c", ""}, {"a z,b z,z a b", "a z", ""}, {"a b c d,b c d a,c d a b,d a b c", "a b", ""}, {"a b c d,b c d a,c d a b,d d a b c", "d", ""},
		{"a,a a", "", "a"}, {"a a,a", "a", ""}, {"a b,b,a b,b a", "", "b a"}, {"b a,a,b,a b", "", "a b"}, {"a b,b,b a,c c,c", "c", "b a"},
	} {
		var rows []string
		if row.rows != "" {
			rows = strings.Split(row.rows, ",")
		}
		cycle, order := checkWays(t, inForce(rows...), waysOf(rows))
		if strings.Join(cycle, " ") != row.cycle || strings.Join(order, " ") != row.order {
			t.Errorf("P12.4: of %q, the cycle is %v and the order %v", row.rows, cycle, order)
		}
	}
}

// P12.4: cycles that only a lookup, or an operand inside of an aggregate, closes, in catalogs that are valid or not.
func TestClosingOperands(t *testing.T) {
	a := api.Expr{Kind: api.FeatureE, Name: "a"}
	aggregate := func(argument, condition api.Expr) api.Expr {
		return api.Expr{Kind: api.AggE, Op: "sum", Table: "a", Win: api.Window{Kind: api.AllW}, Args: []api.Expr{argument, condition}}
	}
	for i, row := range []struct {
		x     api.Expr
		cycle string
	}{
		{expr(`a of (@user "u")`), "[a b]"}, {expr("c of (a)"), "[a b]"}, {expr("c of (c of (a))"), "[a b]"}, {expr("null(1 + c of (-a))"), "[a b]"}, {expr("if c then d else e default a"), "[a b]"},
		{aggregate(a, uses()), "[a b]"}, {aggregate(uses(), a), "[a b]"}, {aggregate(uses("c", "d"), aggregate(uses(), uses("a", "c"))), "[a b]"}, {api.Expr{Kind: 77, Args: []api.Expr{uses(), a}}, "[a b]"}, {api.Expr{Kind: api.LookupE, Name: "a"}, "[a b]"}, {api.Expr{Kind: api.FeatureE, Name: "c", Args: []api.Expr{a}}, "[a b]"},
		{expr("count(a, all)"), "[]"}, {expr("sum(a, a, all where a)"), "[]"}, {api.Expr{Kind: api.FieldE, Name: "a"}, "[]"}, {expr(`@a "a"`), "[]"}, {expr(`"a"`), "[]"}, {expr("1 [a]"), "[]"}, {api.Expr{Kind: 10, Name: "a", Table: "a", Op: "a"}, "[]"}, {api.Expr{}, "[]"},
	} {
		c := api.Catalog{Features: []api.Feature{{Name: "b", Body: row.x}, {Name: "a", Body: uses("c", "b")}}}
		if l := Cycle(c); shown(l) != row.cycle {
			t.Errorf("P12.4: row %d: the cycle is %v", i, l)
		}
		if l := Order(c); (len(l) == 0) != (row.cycle != "[]") || len(l) > 0 && shown(l) != "[b a]" {
			t.Errorf("P12.4: row %d: the order is %v", i, l)
		}
	}
}

// P12.4: only features in force count, whatever their types, entities and versions are.
func TestOnlyInForce(t *testing.T) {
	c := inForce("b a", "a c")
	c.Drafts, c.Past = inForce("c b", "a a").Features, inForce("c a", "b b", "d d").Features
	if l, order := Cycle(c), Order(c); len(l) != 0 || shown(order) != "[a b]" {
		t.Error("P12.4: drafts or past versions count:", l, order)
	}
	c.Features = append(c.Features, c.Drafts...)
	for i := range c.Features {
		c.Features[i].Entity, c.Features[i].Version, c.Features[i].Type = fmt.Sprint(i), -i, api.Type{Kind: i, Of: "x"}
	}
	if l, order := Cycle(c), Order(c); shown(l) != "[a c b]" || len(order) != 0 {
		t.Error("P12.4: the cycle and the order are", l, order)
	}
}

// P12.4: names are compared by their bytes, and may be any strings.
func TestStrangeNames(t *testing.T) {
	names := []string{"", "\x00", " ", "A", "B", "a", "a\x00", "a b", "aa", "b", "of", "z", "ä", "\xff"}
	for i, name := range names {
		for k, other := range names {
			if i == k {
				continue
			}
			c := api.Catalog{Features: []api.Feature{feature(other, uses(name)), feature(name, uses())}}
			if l, order := Cycle(c), Order(c); len(l) != 0 || !slices.Equal(order, []string{name, other}) {
				t.Errorf("P12.4: %q after %q: the cycle is %q, and the order %q", other, name, l, order)
			}
			c.Features[0].Body = uses()
			if order := Order(c); !slices.Equal(order, []string{names[min(i, k)], names[max(i, k)]}) {
				t.Errorf("P12.4: the order of %q and %q is %q", name, other, order)
			}
			c.Features[0].Body, c.Features[1].Body = uses(name), uses(other)
			if l, order := Cycle(c), Order(c); !slices.Equal(l, []string{names[min(i, k)], names[max(i, k)]}) || len(order) != 0 {
				t.Errorf("P12.4: the cycle of %q and %q is %q, and the order %q", name, other, l, order)
			}
			c.Features[1].Body = uses(name)
			if l := Cycle(c); !slices.Equal(l, []string{name}) {
				t.Errorf("P12.4: the cycle of %q is %q", name, l)
			}
		}
	}
}

// catalogFrom returns the catalog with these names in force, in this order, where bit i*len(names)+k says whether the i-th one directly uses the k-th one.
func catalogFrom(names []string, bits int) (c api.Catalog, w ways) {
	w = ways{}
	for i, name := range names {
		used := []string{}
		for k, other := range names {
			if bits>>(i*len(names)+k)&1 == 1 {
				used = append(used, other)
			}
		}
		w[name] = used
		c.Features = append(c.Features, feature(name, uses(used...)))
	}
	return c, w
}

// P12.4, P12.7: all catalogs of at most four features in force.
func TestSmallCatalogs(t *testing.T) {
	found := map[string]int{}
	for n, names := range [][]string{nil, {"a"}, {"b", "a"}, {"b", "c", "a"}, {"c", "a", "d", "b"}} {
		for bits := range 1 << (n * n) {
			c, w := catalogFrom(names, bits)
			cycle, order := checkWays(t, c, w)
			found[fmt.Sprint(len(cycle), " ", len(order))]++
		}
	}
	for _, key := range []string{"0 4", "1 3", "1 0", "2 2", "2 0", "3 1", "3 0", "4 0"} {
		if found[key] == 0 {
			t.Error("no catalog has a cycle and an order with the sizes", key)
		}
	}
}

// byChance returns a catalog with about this many features in force and arrows between them, some of which have the same name, and some of which use names that are not in force.
func byChance(r *rand.Rand, features, arrows int) []string {
	names := manyNames(features)
	r.Shuffle(len(names), func(i, k int) { names[i], names[k] = names[k], names[i] })
	rows := slices.Clone(names)
	for range r.IntN(3) {
		rows = append(rows, pick(r, names))
	}
	names = append(names, "missing", "other")
	style := r.IntN(3)
	if style == 1 { // cycles of many features
		for i := range rows {
			rows[i] += " " + names[(i+1)%(features+r.IntN(2))]
		}
		arrows %= 6
	}
	for range arrows {
		i, k := r.IntN(len(rows)), r.IntN(len(names))
		if style == 2 && r.IntN(20) > 0 { // few cycles
			i, k = max(i, min(k, len(rows)-1)), min(i, k)
		}
		if i != k || r.IntN(9) == 0 {
			rows[i] += " " + names[k]
		}
	}
	return rows
}

// P12.4, P12.7: catalogs of more features by chance, with cycles of many sizes.
func TestCyclesByChance(t *testing.T) {
	r := random(4)
	found := map[int]int{}
	for range 6000 {
		n := 1 + r.IntN(12)
		rows := byChance(r, n, r.IntN(2*n+1))
		cycle, _ := checkWays(t, inForce(rows...), waysOf(rows))
		found[len(cycle)]++
	}
	for n, least := range []int{1000, 300, 500, 300, 150, 100, 50, 30, 20, 10, 10} {
		if found[n] < least {
			t.Error("few catalogs whose cycle has the size", n, ":", found)
		}
	}
}

// P12.4: catalogs with 32 features in rings, of which one is the least.
func TestRings(t *testing.T) {
	r := random(5)
	for range 300 {
		names := manyNames(api.MaxFeatures)
		r.Shuffle(len(names), func(i, k int) { names[i], names[k] = names[k], names[i] })
		var rows []string
		for len(names) > 0 {
			n := min(1+r.IntN(9), len(names))
			for i, name := range names[:n] {
				rows = append(rows, name+" missing "+names[(i+1)%n])
			}
			names = names[n:]
		}
		r.Shuffle(len(rows), func(i, k int) { rows[i], rows[k] = rows[k], rows[i] })
		if _, order := checkWays(t, inForce(rows...), waysOf(rows)); len(order) != 0 {
			t.Fatal("P12.4: an order contains what is on rings:", order)
		}
	}
}
