package printer

import (
	"fmt"
	"math"
	"math/rand/v2"
	"reflect"
	"slices"
	"strings"
	"testing"

	"asof/api"
	"asof/checker"
	"asof/parser"
)

// kindWords are the words of the kinds of types.
var kindWords = map[int]string{api.BoolV: "bool", api.IntV: "int", api.DecV: "dec", api.TextV: "text", api.KeyV: "key"}

// longName has as many bytes as a name may have.
const longName = "n23456789_123456789_1234"

// random returns a source of the same numbers in each run.
func random() *rand.Rand { return rand.New(rand.NewPCG(11, 37)) }

// pick returns one of the elements.
func pick[T any](r *rand.Rand, l []T) T { return l[r.IntN(len(l))] }

// same says whether a and b are equal, where a nil and an empty slice are.
func same[T any](a, b T) bool { return equal(reflect.ValueOf(a), reflect.ValueOf(b)) }

// equal says whether two values of one type, which consists of structs, slices, numbers and strings, are equal.
func equal(a, b reflect.Value) bool {
	switch a.Kind() {
	case reflect.Slice:
		for i := range min(a.Len(), b.Len()) {
			if !equal(a.Index(i), b.Index(i)) {
				return false
			}
		}
		return a.Len() == b.Len()
	case reflect.Struct:
		for i := range a.NumField() {
			if !equal(a.Field(i), b.Field(i)) {
				return false
			}
		}
		return true
	}
	return a.Equal(b)
}

// list returns the factors whose names and exponents follow one another.
func list(parts ...any) (u []api.Factor) {
	for i := 0; i+1 < len(parts); i += 2 {
		u = append(u, api.Factor{Name: parts[i].(string), Exp: parts[i+1].(int)})
	}
	return u
}

// wrongNames are no names.
var wrongNames = []string{"", "A", "_a", "7a", "a b", "a ", " a", "a-b", "a\n", "ä", "a\xff", longName + "5", "of", "table", "int", "count", "true", "if", "(a)", `"a"`}

// rightUnits are valid units with their texts.
var rightUnits = []struct {
	u    []api.Factor
	text string
}{
	{nil, ""}, {[]api.Factor{}, ""},
	{list("eur", 1), " [eur]"}, {list("m", 2), " [m^2]"}, {list("m", 8), " [m^8]"}, {list("m", -1), " [m^-1]"}, {list("m", -8), " [m^-8]"},
	{list("eur", 1, "h", -1), " [eur*h^-1]"}, {list("h", -1, "item", 1), " [h^-1*item]"}, {list("a", 1, "b", 1), " [a*b]"}, {list("a", 3, "b_", -2, "b_9", 8), " [a^3*b_^-2*b_9^8]"},
	{list("a", 1, "b", -1, "c", 2, "d", -8), " [a*b^-1*c^2*d^-8]"}, {list("counts", 1, longName, 7), " [counts*" + longName + "^7]"},
}

// wrongUnits are no units of names.
var wrongUnits = [][]api.Factor{
	list("m", 0), list("m", 9), list("m", -9), list("m", math.MaxInt), list("m", math.MinInt), list("s", 1, "m", 1), list("m", 1, "m", 1), list("", 1), list("A", 1), list("of", 1), list("a", 1, "key", 2), list("a b", 1),
	list("a", 1, "b", 1, "c", 1, "d", 1, "e", 1), list(longName+"5", 1),
}

// textOfNumber returns the text of a type with the kind of a number.
func textOfNumber(kind int, unit string) string { return kindWords[kind] + unit }

// check compares what a function returned with what it should return.
func check(t *testing.T, promise string, of any, s string, e api.Errno, want string, wantE api.Errno) {
	t.Helper()
	if s != want || e != wantE {
		t.Fatalf("%s: the text of %+v is %q with the code %d, not %q with %d", promise, of, s, e, want, wantE)
	}
}

// checkType checks Type of v and the way back.
func checkType(t *testing.T, v api.Type, want string, wantE api.Errno) {
	t.Helper()
	s, e := Type(v)
	check(t, "P11.1", v, s, e, want, wantE)
	if e != api.OK {
		return
	}
	if parsed, at, e := parser.Type([]byte(s)); e != api.OK || at != 0 || !same(parsed, v) {
		t.Fatalf("P11.3: from %q the parser returns %+v and the code %d", s, parsed, e)
	}
}

// P11.1: valid types of every kind, and what is none.
func TestType(t *testing.T) {
	for kind, word := range kindWords {
		isNumber := kind == api.IntV || kind == api.DecV
		for _, unit := range rightUnits {
			switch {
			case isNumber:
				checkType(t, api.Type{Kind: kind, Unit: unit.u}, textOfNumber(kind, unit.text), api.OK)
				checkType(t, api.Type{Kind: kind, Unit: unit.u, Of: "user"}, "", api.ErrForm)
			case len(unit.u) > 0:
				checkType(t, api.Type{Kind: kind, Unit: unit.u}, "", api.ErrForm)
				checkType(t, api.Type{Kind: kind, Unit: unit.u, Of: "user"}, "", api.ErrForm)
			case kind == api.KeyV:
				checkType(t, api.Type{Kind: kind, Unit: unit.u}, "", api.ErrForm)
			default:
				checkType(t, api.Type{Kind: kind, Unit: unit.u}, word, api.OK)
				checkType(t, api.Type{Kind: kind, Unit: unit.u, Of: "user"}, "", api.ErrForm)
			}
		}
		for _, u := range wrongUnits {
			want := api.ErrForm
			if isNumber {
				want = api.ErrUnit
			}
			checkType(t, api.Type{Kind: kind, Unit: u}, "", want)
		}
	}
	for _, of := range []string{"user", "u", "x_9", "keys", longName} {
		checkType(t, api.Type{Kind: api.KeyV, Of: of}, "key "+of, api.OK)
	}
	for _, of := range wrongNames {
		checkType(t, api.Type{Kind: api.KeyV, Of: of}, "", api.ErrForm)
	}
	for _, kind := range []int{math.MinInt, -1, 0, 6, 7, 1<<32 + 2, math.MaxInt} {
		checkType(t, api.Type{Kind: kind}, "", api.ErrForm)
		checkType(t, api.Type{Kind: kind, Unit: list("eur", 1), Of: "user"}, "", api.ErrForm)
	}
}

// rightTypes returns valid types with their texts.
func rightTypes() (l []api.Type, texts []string) {
	for _, word := range []string{"bool", "text", "key user", "key " + longName} {
		v, _, _ := parser.Type([]byte(word))
		l, texts = append(l, v), append(texts, word)
	}
	for _, unit := range rightUnits {
		for _, kind := range []int{api.IntV, api.DecV} {
			l, texts = append(l, api.Type{Kind: kind, Unit: unit.u}), append(texts, textOfNumber(kind, unit.text))
		}
	}
	return l, texts
}

// tableOf returns a table of this many fields, whose types are those from the index on, and its text.
func tableOf(name, entity string, fields, from, keep int) (v api.Table, text string) {
	types, texts := rightTypes()
	v = api.Table{Name: name, Entity: entity, Keep: keep}
	var parts []string
	for i := range fields {
		at := (from + i) % len(types)
		f := api.Field{Name: fmt.Sprintf("f%d", i), Type: types[at]}
		v.Fields = append(v.Fields, f)
		parts = append(parts, " "+f.Name+": "+texts[at])
	}
	text = fmt.Sprintf("table %s of %s {%s }", name, entity, strings.Join(parts, ","))
	if keep != 0 {
		text += fmt.Sprintf(" keep %d", keep)
	}
	return v, text + ";"
}

// checkTable checks Table of v.
func checkTable(t *testing.T, v api.Table, want string, wantE api.Errno) {
	t.Helper()
	s, e := Table(v)
	check(t, "P11.2", v, s, e, want, wantE)
	if known := checker.Table(v); known != wantE {
		t.Fatalf("P11.2: checker.Table of %+v returns %d, not %d", v, known, wantE)
	}
	if e == api.OK {
		checkModule(t, api.Module{Tables: []api.Table{v}}, want+"\n", api.OK)
	}
}

// P11.2: tables with no field up to eight of them, of all types, with and without Keep.
func TestTable(t *testing.T) {
	types, _ := rightTypes()
	for fields := range 9 {
		for from := range types {
			for _, keep := range []int{0, 1, 9, 1 << 40} {
				v, text := tableOf("t", "user", fields, from, keep)
				checkTable(t, v, text, api.OK)
			}
		}
	}
	for _, name := range []string{"t", "x_9", "tables", "u", longName} {
		v, text := tableOf(name, "u", 2, 0, 7)
		checkTable(t, v, text, api.OK)
		v, text = tableOf("t", name, 2, 0, 7)
		checkTable(t, v, text, api.OK)
	}
	checkTable(t, api.Table{Name: "t", Entity: "user", Fields: []api.Field{}}, "table t of user { };", api.OK)
}

// wrongTables are tables with the errors of checker.Table, where what is wrong first counts.
func wrongTables() (l []api.Table, codes []api.Errno) {
	add := func(e api.Errno, change func(v *api.Table)) {
		v, _ := tableOf("t", "user", 3, 0, 7)
		change(&v)
		l, codes = append(l, v), append(codes, e)
	}
	for _, name := range wrongNames {
		add(api.ErrForm, func(v *api.Table) { v.Name = name })
		add(api.ErrForm, func(v *api.Table) { v.Entity = name })
		add(api.ErrForm, func(v *api.Table) { v.Fields[2].Name = name })
	}
	for _, keep := range []int{-1, 1<<40 + 1, math.MinInt, math.MaxInt} {
		add(api.ErrForm, func(v *api.Table) { v.Keep = keep })
	}
	many, _ := tableOf("t", "user", 9, 0, 0)
	add(api.ErrLimit, func(v *api.Table) { *v = many })
	add(api.ErrLimit, func(v *api.Table) { v.Fields = make([]api.Field, 9) })
	add(api.ErrForm, func(v *api.Table) { v.Fields, v.Keep = make([]api.Field, 9), -1 })
	add(api.ErrTaken, func(v *api.Table) { v.Fields[1].Name = v.Fields[0].Name })
	add(api.ErrTaken, func(v *api.Table) { v.Fields[2].Name, v.Fields[2].Type = v.Fields[0].Name, api.Type{} })
	add(api.ErrForm, func(v *api.Table) { v.Fields[1].Type = api.Type{} })
	add(api.ErrForm, func(v *api.Table) { v.Fields[1].Type.Of, v.Fields[2].Name = "user", v.Fields[0].Name })
	add(api.ErrUnit, func(v *api.Table) { v.Fields[0].Type = api.Type{Kind: api.IntV, Unit: list("m", 9)} })
	add(api.ErrUnit, func(v *api.Table) {
		v.Fields[1].Type = api.Type{Kind: api.DecV, Unit: list("of", 1)}
		v.Fields[2].Name = ""
	})
	return l, codes
}

// P11.2: each error of checker.Table.
func TestWrongTable(t *testing.T) {
	l, codes := wrongTables()
	for i, v := range l {
		checkTable(t, v, "", codes[i])
	}
}

// checkFeature checks Feature of v.
func checkFeature(t *testing.T, v api.Feature, want string, wantE api.Errno) {
	t.Helper()
	s, e := Feature(v)
	check(t, "P11.2", v, s, e, want, wantE)
	if e == api.OK {
		checkModule(t, api.Module{Features: []api.Feature{v}}, want+"\n", api.OK)
	}
}

// P11.2: features of all types with bodies of all kinds, which need not fit, of any version.
func TestFeature(t *testing.T) {
	types, texts := rightTypes()
	for i, valueType := range types {
		for k, src := range proper {
			f := api.Feature{Name: "f", Entity: "user", Type: valueType, Body: expr(src), Version: []int{0, 1, 2, -1, math.MaxInt, math.MinInt}[(i+k)%6]}
			checkFeature(t, f, "feature f of user: "+texts[i]+" = "+src+";", api.OK)
		}
	}
	for _, name := range []string{"f", "x_9", "features", "u", longName} {
		f := api.Feature{Name: name, Entity: "u", Type: types[0], Body: expr("a")}
		checkFeature(t, f, "feature "+name+" of u: bool = a;", api.OK)
		f.Name, f.Entity = "f", name
		checkFeature(t, f, "feature f of "+name+": bool = a;", api.OK)
	}
}

// wrongFeatures returns features in which a name, the entity, the type and the body are wrong, alone and together, with their errors.
func wrongFeatures() (l []api.Feature, codes []api.Errno) {
	deep := nest(13, "not", truth())
	types := map[api.Errno]api.Type{api.OK: {Kind: api.IntV}, api.ErrForm: {Kind: api.KeyV}, api.ErrUnit: {Kind: api.DecV, Unit: list("of", 1)}}
	bodies := map[api.Errno]api.Expr{api.OK: truth(), api.ErrForm: {Kind: api.FieldE, Name: "a"}, api.ErrLimit: deep}
	for _, name := range append([]string{"f"}, wrongNames...) {
		for _, entity := range append([]string{"u"}, wrongNames...) {
			for typeError, valueType := range types {
				for bodyError, body := range bodies {
					e := api.ErrForm
					if name == "f" && entity == "u" {
						e = typeError
						if e == api.OK {
							e = bodyError
						}
					}
					if e != api.OK {
						l = append(l, api.Feature{Name: name, Entity: entity, Type: valueType, Body: body, Version: len(l) - 9})
						codes = append(codes, e)
					}
				}
			}
		}
	}
	return l, codes
}

// P11.2: the errors of Feature, in their order.
func TestWrongFeature(t *testing.T) {
	l, codes := wrongFeatures()
	found := map[api.Errno]int{}
	for i, f := range l {
		checkFeature(t, f, "", codes[i])
		found[codes[i]]++
	}
	if len(found) != 3 {
		t.Error("not all errors:", found)
	}
}

// checkModule checks Module of m and the way back.
func checkModule(t *testing.T, m api.Module, want string, wantE api.Errno) {
	t.Helper()
	s, e := Module(m)
	check(t, "P11.2", m, s, e, want, wantE)
	if e != api.OK {
		return
	}
	plain := api.Module{Tables: m.Tables, Features: slices.Clone(m.Features)}
	for i := range plain.Features {
		plain.Features[i].Version = 0
	}
	parsed, bad, code := parser.Module([]byte(s))
	if code != api.OK || len(bad) > 0 || !same(parsed, plain) {
		t.Fatalf("P11.3: from %q the parser returns %+v, the problems %v and the code %d", s, parsed, bad, code)
	}
	if again, e := Module(parsed); again != s || e != api.OK {
		t.Fatalf("P11.3: the text %q becomes %q with the code %d", s, again, e)
	}
}

// P11.2: modules of tables and features, of any number and also with the same names.
func TestModule(t *testing.T) {
	checkModule(t, api.Module{}, "", api.OK)
	checkModule(t, api.Module{Tables: []api.Table{}, Features: []api.Feature{}}, "", api.OK)
	r := random()
	for i := range 300 {
		var m api.Module
		text := ""
		for range r.IntN(5) * (i % 3) {
			v, s := tableOf(pick(r, []string{"t", "t", longName}), pick(r, []string{"t", "user"}), r.IntN(9), r.IntN(50), pick(r, []int{0, 5}))
			m.Tables, text = append(m.Tables, v), text+s+"\n"
		}
		for range r.IntN(9) * (i % 2) {
			src := pick(r, proper)
			f := api.Feature{Name: pick(r, []string{"f", "t", "g"}), Entity: "user", Type: api.Type{Kind: api.TextV}, Body: expr(src), Version: r.IntN(5) - 1}
			m.Features, text = append(m.Features, f), text+fmt.Sprintf("feature %s of user: text = %s;\n", f.Name, src)
		}
		checkModule(t, m, text, api.OK)
	}
}

// spoil replaces some elements of l by wrong ones, each of whose codes is as likely as the others, and returns the code of the first one.
func spoil[T any](r *rand.Rand, l, wrong []T, codes []api.Errno) (e api.Errno) {
	different := slices.Compact(slices.Sorted(slices.Values(codes)))
	for i := range l {
		if r.IntN(len(l)) > 0 {
			continue
		}
		code, at := pick(r, different), r.IntN(len(wrong))
		for codes[at] != code {
			at = (at + 1) % len(wrong)
		}
		l[i] = wrong[at]
		e = first(e, code)
	}
	return e
}

// P11.2: the first wrong table, and if there is none the first wrong feature, of several ones; only then the length of the text counts.
func TestWrongModule(t *testing.T) {
	wrongT, codesT := wrongTables()
	wrongF, codesF := wrongFeatures()
	rightT, textT := tableOf("t", "user", 8, 0, 7)
	rightF, textF := api.Feature{Name: "f", Entity: "u", Type: api.Type{Kind: api.BoolV}, Body: truth()}, "feature f of u: bool = true;"
	r := random()
	found := map[string]int{}
	for i := range 3000 {
		m := api.Module{Tables: slices.Repeat([]api.Table{rightT}, r.IntN(3)), Features: slices.Repeat([]api.Feature{rightF}, r.IntN(3))}
		if i%4 == 0 {
			m = api.Module{Tables: slices.Repeat([]api.Table{rightT}, r.IntN(90)), Features: slices.Repeat([]api.Feature{rightF}, r.IntN(600))}
		}
		text := strings.Repeat(textT+"\n", len(m.Tables)) + strings.Repeat(textF+"\n", len(m.Features))
		var ofTables, ofFeatures, ofLength api.Errno
		if i%3 == 0 {
			ofTables = spoil(r, m.Tables, wrongT, codesT)
		}
		if i%5 < 3 {
			ofFeatures = spoil(r, m.Features, wrongF, codesF)
		}
		if len(text) > 16384 {
			ofLength = api.ErrLimit
		}
		want := first(first(ofTables, ofFeatures), ofLength)
		if want != api.OK {
			text = ""
		}
		s, e := Module(m)
		if s != text || e != want {
			t.Fatalf("P11.2: Module of %d tables and %d features returns %d bytes and %d, not %d and %d", len(m.Tables), len(m.Features), len(s), e, len(text), want)
		}
		found[fmt.Sprint(ofTables, ofFeatures, ofLength)]++
	}
	if len(found) < 25 {
		t.Error("few combinations of errors:", found)
	}
}

// first returns the first error of the two.
func first(a, b api.Errno) api.Errno {
	if a != api.OK {
		return a
	}
	return b
}

// P11.2: modules whose text has as many bytes as a source may have, and more.
func TestLongModule(t *testing.T) {
	table := func(extra int) api.Table {
		return api.Table{Name: "t" + strings.Repeat("x", extra), Entity: "u"}
	}
	feature := func(extra int) api.Feature {
		return api.Feature{Name: "f" + strings.Repeat("x", extra), Entity: "u", Type: api.Type{Kind: api.IntV}, Body: expr("1")}
	}
	const tableText, featureText = "table t of u { };\n", "feature f of u: int = 1;\n"
	for _, length := range []int{16300, 16382, 16383, 16384, 16385, 16386, 16400, 20000, 1 << 20} {
		for _, features := range []int{0, 1, 7, 300, 600} {
			var m api.Module
			left := length
			for range features {
				m.Features, left = append(m.Features, feature(0)), left-len(featureText)
			}
			for left >= len(tableText) {
				m.Tables, left = append(m.Tables, table(0)), left-len(tableText)
			}
			m.Tables[len(m.Tables)-1] = table(left)
			text := strings.Repeat(tableText, len(m.Tables)-1) + strings.Replace(tableText, "t of", "t"+strings.Repeat("x", left)+" of", 1) + strings.Repeat(featureText, features)
			if len(text) != length {
				t.Fatal("the text has", len(text), "bytes")
			}
			if length > 16384 {
				checkModule(t, m, "", api.ErrLimit)
			} else {
				checkModule(t, m, text, api.OK)
			}
		}
	}
	for extra, want := range []api.Errno{api.OK, api.OK, api.ErrLimit, api.ErrLimit} {
		m := api.Module{Features: slices.Repeat([]api.Feature{feature(0)}, 655)} // 16375 bytes
		m.Features[654] = feature(8 + extra)
		text := strings.Repeat(featureText, 654) + "feature f" + strings.Repeat("x", 8+extra) + " of u: int = 1;\n"
		if want == api.OK != (len(text) <= 16384) {
			t.Fatal("the text has", len(text), "bytes")
		}
		if want != api.OK {
			text = ""
		}
		checkModule(t, m, text, want)
	}
}
