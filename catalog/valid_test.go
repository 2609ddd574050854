package catalog

import (
	"fmt"
	"math/rand/v2"
	"slices"
	"strings"
	"testing"

	"asof/api"
	"asof/checker"
	"asof/units"
)

// tablesSource declares the tables of catalogs by chance.
const tablesSource = "table clicks of user { n: int, shop: key shop, by: key user, ok: bool }; table owners of shop { n: int, shop: key shop, by: key user, ok: bool }; table taps of user { n: int, shop: key shop, by: key user, ok: bool };"

// maker makes features in force by chance that fit together.
type maker struct {
	r    *rand.Rand
	made map[string][]string // the names of the features, by their entity kinds and types: "user int"
}

// number returns the source of an expression of the type int about an entity of this kind.
func (m maker) number(entity string, depth int) string {
	own, table := m.made[entity+" int"], pick(m.r, map[string][]string{"user": {"clicks", "taps"}, "shop": {"owners"}}[entity])
	arg := func() string { return "(" + m.number(entity, depth-1) + ")" }
	switch k := m.r.IntN(9); {
	case depth > 1 && k < 3:
		return arg() + pick(m.r, []string{"+", "-", "*", " default "}) + arg()
	case depth > 1 && k == 3:
		return "if " + arg() + pick(m.r, []string{"<", "==", "!=", "<="}) + arg() + " then " + arg() + " else -" + arg()
	case k == 4:
		return fmt.Sprintf(pick(m.r, []string{"count(%s, all)", "sum(%s, n, sliding 5 where ok)", "max(%s, n * n, tumbling 60)", "distinct(%s, by, session 3)"}), table)
	case k == 5:
		other := pick(m.r, []string{"user", "shop"})
		if names := m.made[other+" int"]; len(names) > 0 {
			field := map[string]string{"user": "by", "shop": "shop"}[other]
			return pick(m.r, names) + " of (" + pick(m.r, []string{"@" + other + ` "k"`, "last(" + table + ", " + field + ", all)"}) + ")"
		}
	case k > 5 && len(own) > 0:
		return pick(m.r, own)
	}
	return "count(" + table + ", all)"
}

// feature returns the source of a feature of this name over those that are made already, and makes it.
func (m maker) feature(name string) string {
	entity := pick(m.r, []string{"user", "user", "shop"})
	kind, body := "int", m.number(entity, 3)
	switch m.r.IntN(5) {
	case 0:
		kind, body = "dec [h^-1]", "("+body+") / ("+m.number(entity, 3)+") * 1 [h^-1]"
	case 1:
		kind, body = "bool", "("+body+") < ("+m.number(entity, 3)+")"
		if names := m.made[entity+" bool"]; len(names) > 0 {
			body += " and " + pick(m.r, names)
		}
	}
	m.made[entity+" "+kind] = append(m.made[entity+" "+kind], name)
	return fmt.Sprintf("feature %s of %s: %s = %s;", name, entity, kind, body)
}

// validCatalog returns a catalog by chance that is valid if none of its expressions is too large.
func validCatalog(r *rand.Rand) api.Catalog {
	names := manyNames(1 + r.IntN(16))
	r.Shuffle(len(names), func(i, k int) { names[i], names[k] = names[k], names[i] })
	m := maker{r, map[string][]string{}}
	src := tablesSource
	for _, name := range names {
		src += m.feature(name)
	}
	drafts := "feature f000000 of user: text = lost; feature f000001 of user: int = f000001;"
	c := catalogOf(src, drafts, drafts)
	slices.SortFunc(c.Features, func(a, b api.Feature) int { return strings.Compare(a.Name, b.Name) })
	return c
}

// isSameType says whether the types are equal.
func isSameType(a, b api.Type) bool {
	return a.Kind == b.Kind && a.Of == b.Of && units.Same(a.Unit, b.Unit)
}

// checkValid checks the promises of valid catalogs, and returns the number of arrows between features in force.
func checkValid(t *testing.T, c api.Catalog) (arrows int) {
	t.Helper()
	var names []string
	for _, f := range c.Features {
		names = append(names, f.Name)
		features, tables := Uses(c, f.Body)
		for _, name := range tables {
			if _, ok := Table(c, name); !ok {
				t.Fatalf("P12.8: %s uses the table %s, which is not there", f.Name, name)
			}
		}
		for _, name := range features {
			if _, ok := Feature(c, name); !ok {
				t.Fatalf("P12.8: %s uses the feature %s, which is not in force", f.Name, name)
			}
			arrows++
		}
		if v, e := checker.Infer(c, f.Entity, f.Body); e != api.OK || !isSameType(v, f.Type) {
			t.Fatalf("P12.8: %s has the type %+v, but checker.Infer returns %+v and %d", f.Name, f.Type, v, e)
		}
	}
	order, cycle := Order(c), Cycle(c)
	if sorted := slices.Sorted(slices.Values(order)); !slices.Equal(sorted, names) {
		t.Fatalf("P12.8: the features %v are in force, but the order is %v", names, order)
	}
	checkOrder(t, c, order, cycle, names)
	checkDigest(t, c, textWanted(c))
	return arrows
}

// wantedCheck returns what Check should return, by the chapter's list.
func wantedCheck(c api.Catalog) api.Errno {
	var l []api.Errno
	unless := func(ok bool, e api.Errno) {
		if !ok {
			l = append(l, e)
		}
	}
	isRight := func(f api.Feature) bool {
		return isName(f.Name) && isName(f.Entity) && f.Version >= 1 && f.Version <= 1<<40
	}
	unless(len(c.Tables) <= 16 && max(len(c.Features), len(c.Drafts), len(c.Past)) <= 32, 2)
	for i, v := range c.Tables {
		l = append(l, checker.Table(v))
		unless(i == 0 || c.Tables[max(i, 1)-1].Name < v.Name, 1)
	}
	all := slices.Concat(c.Features, c.Drafts, c.Past)
	past := len(c.Features) + len(c.Drafts)
	for i, f := range all {
		unless(isRight(f), 1)
		l = append(l, checker.Type(f.Type), checker.Shape(f.Body))
		if i != 0 && i != len(c.Features) && i != past {
			unless(all[i-1].Name < f.Name || i > past && all[i-1].Name == f.Name, 1)
		}
		unless(!slices.ContainsFunc(all[:i], func(g api.Feature) bool { return g.Name == f.Name && g.Version == f.Version }), 121)
	}
	w := ways{}
	for _, f := range c.Features {
		l = append(l, checker.Feature(c, f))
		used, _ := Uses(api.Catalog{}, f.Body)
		w[f.Name] = used
	}
	unless(len(w) == len(w.order()), 120)
	for _, e := range l {
		if e != 0 {
			return e
		}
	}
	return 0
}

// disturb changes something in c, by chance.
func disturb(r *rand.Rand, c *api.Catalog) {
	l := pick(r, []func(c *api.Catalog) []api.Feature{featuresOf, draftsOf, pastOf})(c)
	if len(l) == 0 {
		return
	}
	i := r.IntN(len(l))
	f := &l[i]
	switch r.IntN(12) {
	case 0:
		f.Name = pick(r, append([]string{"f000003", "a", "zz"}, wrongNames...))
	case 1:
		f.Entity = pick(r, []string{"user", "shop", "of", ""})
	case 2:
		f.Version = pick(r, []int{0, -1, 1, 2, 100, 101, api.MaxTick, api.MaxTick + 1})
	case 3:
		f.Type = pick(r, []api.Type{{}, {Kind: api.IntV}, {Kind: api.BoolV}, {Kind: api.KeyV}, {Kind: api.KeyV, Of: "user"}, {Kind: api.IntV, Unit: []api.Factor{{Name: "h"}}}, {Kind: api.DecV, Unit: []api.Factor{{Name: "h", Exp: -1}}}})
	case 4:
		f.Body = pick(r, []api.Expr{tooDeep(), {}, expr("1 [h]"), expr("true"), expr("count(lost, all)"), expr("missing"), {Kind: api.FieldE, Name: "n"}})
	case 5, 6, 7:
		f.Body = api.Expr{Kind: api.FeatureE, Name: pick(r, c.Features).Name}
		f.Type, f.Entity = pick(r, c.Features).Type, pick(r, c.Features).Entity
	case 8:
		k := r.IntN(len(l))
		l[i], l[k] = l[k], l[i]
	case 9:
		c.Past = append(c.Past, pick(r, l))
		slices.SortFunc(c.Past, func(a, b api.Feature) int { return strings.Compare(a.Name, b.Name) })
	case 10:
		v := &c.Tables[r.IntN(len(c.Tables))]
		v.Name, v.Keep = pick(r, []string{"clicks", "owners", "taps", v.Name, "a", "zz", "of"}), pick(r, []int{0, 5, -1})
	case 11:
		v := &c.Tables[r.IntN(len(c.Tables))]
		v.Fields, v.Entity = slices.Concat(v.Fields, fields(pick(r, []string{"n", "x", "of"}))), pick(r, []string{v.Entity, "user"})
	}
}

// P12.1, P12.8: valid catalogs by chance, and what is made of them by changes.
func TestValidCatalogs(t *testing.T) {
	r := random(8)
	arrows, found := 0, map[api.Errno]int{}
	for range 1500 {
		c := validCatalog(r)
		for range 1 + r.IntN(8) {
			e := Check(c)
			if want := wantedCheck(c); e != want {
				t.Fatalf("P12.1: Check of %+v returns %d, not %d", c, e, want)
			}
			found[e]++
			if e == api.OK {
				arrows += checkValid(t, c)
			}
			disturb(r, &c)
		}
	}
	for _, e := range []api.Errno{api.OK, api.ErrArg, api.ErrLimit, api.ErrForm, api.ErrNone, api.ErrType, api.ErrUnit, api.ErrCycle, api.ErrTaken} {
		if found[e] < 40 {
			t.Error("few catalogs with the code", e, found)
		}
	}
	if arrows < 20000 {
		t.Error("few features use others:", arrows)
	}
	checkValid(t, base())
	checkValid(t, api.Catalog{})
	checkValid(t, sized(api.MaxTables, api.MaxFeatures, api.MaxFeatures, api.MaxFeatures))
}
