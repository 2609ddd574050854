package catalog

import (
	"fmt"
	"slices"
	"strings"
	"testing"

	"asof/api"
	"asof/checksum"
	"asof/printer"
)

// baseText is the text of the base catalog.
const baseText = `table clicks of user { n: int, shop: key shop, by: key user, ok: bool };
table orders of user { amount: dec [eur], ok: bool, note: text } keep 100;
table visits of shop { n: int, at: key user };
f 100 feature b of user: int = count(clicks, all);
f 100 feature c of user: int = b + d;
f 100 feature d of user: int = b default 0;
f 100 feature e of user: dec [eur] = sum(orders, amount, all where ok);
f 100 feature g of shop: int = sum(visits, n, sliding 5);
f 100 feature h of user: key shop = last(clicks, shop, all);
f 100 feature k of user: int = g of (h);
d 101 feature b of user: int = count(clicks, sliding 60);
d 101 feature m of user: text = c + missing;
d 101 feature z of shop: int = z;
p 1 feature b of user: int = 1;
p 2 feature b of shop: dec [h] = first(lost, note, all);
p 3 feature gone of user: bool = lost of (k);
p 4 feature h of user: int = true;
`

// hash returns the hash of the text.
func hash(text string) uint64 { return checksum.Hash(0, []byte(text)) }

// checkDigest compares Digest of a valid catalog with the hash of its text.
func checkDigest(t *testing.T, c api.Catalog, text string) {
	t.Helper()
	if h, e := Digest(c); e != api.OK || h != hash(text) {
		t.Errorf("P12.5: Digest of %+v returns %d and %d; the text is %q", c, h, e, text)
	}
}

// P12.5: the digests of catalogs whose texts are written out.
func TestDigest(t *testing.T) {
	checkDigest(t, base(), baseText)
	checkDigest(t, api.Catalog{}, "")
	checkDigest(t, api.Catalog{Tables: []api.Table{}, Features: []api.Feature{}, Drafts: []api.Feature{}, Past: []api.Feature{}}, "")
	table, f := "table t of u { };", "feature f of u: int = 1;"
	checkDigest(t, catalogOf(table, "", ""), "table t of u { };\n")
	checkDigest(t, catalogOf(f, "", ""), "f 100 "+f+"\n")
	checkDigest(t, catalogOf("", f, ""), "d 101 "+f+"\n")
	checkDigest(t, catalogOf("", "", f), "p 1 "+f+"\n")
	checkDigest(t, catalogOf(f+table, f, f), table+"\nf 100 "+f+"\nd 101 "+f+"\np 1 "+f+"\n")
	for _, version := range []int{1, 9, 10, 1 << 32, 1 << 40} {
		c := catalogOf(f, "", "")
		c.Features[0].Version = version
		checkDigest(t, c, fmt.Sprintf("f %d %s\n", version, f))
	}
	checkDigest(t, catalogOf("table t of u{a:dec[eur*h^-1],b:key u}keep 1099511627776; feature f of u:dec[eur*h^-1]=((sum(t,a,session 7 where(true))))default 1.5[eur*h^-1];", "", ""),
		"table t of u { a: dec [eur*h^-1], b: key u } keep 1099511627776;\nf 100 feature f of u: dec [eur*h^-1] = sum(t, a, session 7) default 1.500000 [eur*h^-1];\n")
}

// P12.5: the greatest catalogs have texts longer than a source may be.
func TestLongDigest(t *testing.T) {
	c := sized(api.MaxTables, api.MaxFeatures, api.MaxFeatures, api.MaxFeatures)
	text := ""
	for _, v := range c.Tables {
		text += "table " + v.Name + " of user { };\n"
	}
	long := `if "` + strings.Repeat("x", 64) + `" == "` + strings.Repeat("y", 64) + `" then 1 else 1152921504606846976 - 1`
	for _, l := range []struct {
		letter   string
		features []api.Feature
	}{{"f", c.Features}, {"d", c.Drafts}, {"p", c.Past}} {
		for i := range l.features {
			l.features[i].Body = expr(long)
			text += fmt.Sprintf("%s %d feature %s of user: int = %s;\n", l.letter, l.features[i].Version, l.features[i].Name, long)
		}
	}
	if len(text) <= api.MaxSource {
		t.Error("the text is short:", len(text))
	}
	checkDigest(t, c, text)
}

// neighbours returns catalogs that differ from the base catalog in one place.
func neighbours() (l []api.Catalog) {
	add := func(change func(c *api.Catalog)) {
		c := base()
		change(&c)
		l = append(l, c)
	}
	add(func(c *api.Catalog) { c.Tables[0].Name = "cliks"; c.Features = c.Features[3:5] })
	add(func(c *api.Catalog) { c.Tables[1].Keep = 101 })
	add(func(c *api.Catalog) { c.Tables[1].Keep = 0 })
	add(func(c *api.Catalog) { c.Tables[0].Fields[3].Name = "paid" })
	add(func(c *api.Catalog) { c.Tables[0].Fields[3].Type = api.Type{Kind: api.TextV} })
	add(func(c *api.Catalog) { c.Tables[0].Fields[2].Type.Of = "shop" })
	add(func(c *api.Catalog) { c.Tables[0].Fields = c.Tables[0].Fields[:3] })
	add(func(c *api.Catalog) { c.Tables = append(c.Tables, api.Table{Name: "w", Entity: "user"}) })
	for _, of := range []func(c *api.Catalog) []api.Feature{featuresOf, draftsOf, pastOf} {
		add(func(c *api.Catalog) { of(c)[0].Version += 1000 })
		add(func(c *api.Catalog) { of(c)[0].Body = expr("2") })
		add(func(c *api.Catalog) { last := len(of(c)) - 1; of(c)[last].Name += "z" })
	}
	add(func(c *api.Catalog) { c.Features[0].Body.Win.Kind, c.Features[0].Body.Win.Size = api.SlidingW, 9 })
	add(func(c *api.Catalog) { c.Drafts[0].Body.Win.Size = 61 })
	add(func(c *api.Catalog) { c.Drafts[0].Entity = "shop" })
	add(func(c *api.Catalog) { c.Past[1].Type.Unit = nil })
	add(func(c *api.Catalog) { c.Past[1].Type.Unit[0].Exp = 2 })
	add(func(c *api.Catalog) { c.Past[0], c.Past[1] = c.Past[1], c.Past[0] })
	add(func(c *api.Catalog) { c.Past[0].Version, c.Past[1].Version = 2, 1 })
	add(func(c *api.Catalog) { c.Features = c.Features[:6] })
	add(func(c *api.Catalog) { c.Drafts = c.Drafts[:2] })
	add(func(c *api.Catalog) { c.Past = c.Past[:3] })
	add(func(c *api.Catalog) { c.Drafts = nil })
	add(func(c *api.Catalog) { c.Past = nil })
	return l
}

// P12.5: catalogs that differ in one place have different texts, and so different digests.
func TestNeighbours(t *testing.T) {
	known := map[uint64]string{hash(baseText): shown(base())}
	for _, c := range neighbours() {
		h, e := Digest(c)
		if other, found := known[h]; found || e != api.OK {
			t.Errorf("P12.5: %+v has the digest %d and the code %d, as %s", c, h, e, other)
		}
		known[h] = shown(c)
		checkDigest(t, c, textWanted(c))
	}
}

// P12.5: the same definitions in another of the lists.
func TestOtherLists(t *testing.T) {
	l := versions("feature p of user: int = 1; feature q of user: int = p;", 5, 1)
	known := map[uint64]bool{}
	for i, c := range []api.Catalog{
		{Features: l}, {Drafts: l}, {Past: l}, {Features: l[:1], Drafts: l[1:]}, {Features: l[:1], Past: l[1:]}, {Drafts: l[:1], Past: l[1:]}, {Drafts: l[1:], Past: l[:1]}, {Features: l[:1]}, {Drafts: l[:1]}, {Past: l[:1]},
	} {
		h, e := Digest(c)
		if e != api.OK || known[h] {
			t.Errorf("P12.5: the catalog %d has the code %d, or the digest of another one", i, e)
		}
		known[h] = true
		checkDigest(t, c, textWanted(c))
	}
	moved := base()
	moved.Features, moved.Drafts = moved.Features[:6], append(slices.Clone(moved.Drafts[:1]), moved.Features[6], moved.Drafts[1], moved.Drafts[2])
	lines := strings.SplitAfter(baseText, "\n")
	checkDigest(t, moved, strings.Join(slices.Concat(lines[:9], lines[10:11], []string{"d" + lines[9][1:]}, lines[11:]), ""))
}

// textWanted returns the text of a catalog.
func textWanted(c api.Catalog) string {
	var l []string
	for _, v := range c.Tables {
		text, _ := printer.Table(v)
		l = append(l, text)
	}
	for i, features := range [][]api.Feature{c.Features, c.Drafts, c.Past} {
		for _, f := range features {
			text, _ := printer.Feature(f)
			l = append(l, fmt.Sprintf("%c %d %s", "fdp"[i], f.Version, text))
		}
	}
	if len(l) == 0 {
		return ""
	}
	return strings.Join(l, "\n") + "\n"
}
