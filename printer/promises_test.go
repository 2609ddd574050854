package printer

import (
	"slices"
	"testing"

	"asof/api"
	"asof/lexer"
	"asof/parser"
)

// small returns all expressions of at most this depth over the feature a, with an operator of each rank and more.
func small(depth int) []api.Expr {
	l := []api.Expr{name(api.FeatureE, "a")}
	if depth == 1 {
		return l
	}
	below := small(depth - 1)
	for _, x := range below {
		lookup := of(api.LookupE, "", x)
		lookup.Name = "a"
		l = append(l, of(api.UnaryE, "-", x), of(api.UnaryE, "not", x), of(api.UnaryE, "null", x), lookup)
		for _, y := range below {
			l = append(l, of(api.DefaultE, "", x, y), of(api.BinaryE, "==", x, y), of(api.BinaryE, "<", x, y))
			for _, op := range []string{"or", "and", "+", "-", "*"} {
				l = append(l, of(api.BinaryE, op, x, y))
			}
			for _, z := range below[:min(len(below), 10)] {
				l = append(l, of(api.IfE, "", x, y, z))
			}
		}
	}
	return l
}

// withoutPairs returns the texts that result from s if one pair of parentheses is left out.
func withoutPairs(s string) (l []string) {
	tokens, _, _ := lexer.Tokens([]byte(s))
	var open []int
	for _, t := range tokens {
		switch {
		case t.Kind != api.TokSign:
		case t.Text == "(":
			open = append(open, t.At)
		case t.Text == ")":
			at := open[len(open)-1]
			open = open[:len(open)-1]
			l = append(l, s[:at]+" "+s[at+1:t.At]+" "+s[t.At+1:])
		}
	}
	return l
}

// checkText checks that the parser leads back from the text of x, from which the same text is printed again, that it is that of no other known expression, and that it needs all its parentheses; it returns the number of their pairs.
func checkText(t *testing.T, known map[string]api.Expr, x api.Expr) int {
	t.Helper()
	s, e := Expr(x)
	if e != api.OK {
		t.Fatalf("P11.3: %+v has no text, but the code %d", x, e)
	}
	if y, found := known[s]; found && !same(x, y) {
		t.Fatalf("P11.3: %+v and %+v have the text %q", x, y, s)
	}
	known[s] = x
	parsed, _, e := parser.Expr([]byte(s))
	if e != api.OK || !same(parsed, x) {
		t.Fatalf("P11.3: from %q the parser returns %+v and the code %d", s, parsed, e)
	}
	if again, e := Expr(parsed); e != api.OK || again != s {
		t.Fatalf("P11.3: the text %q becomes %q with the code %d", s, again, e)
	}
	without := withoutPairs(s)
	for _, bare := range without {
		if isTextOf(bare, x, false) {
			t.Fatalf("P11.3: %q does not need all its parentheses", s)
		}
	}
	return len(without)
}

// P11.3: the texts of all small expressions.
func TestSmall(t *testing.T) {
	known := map[string]api.Expr{}
	pairs := 0
	for _, x := range small(3) {
		pairs += checkText(t, known, x)
		checkExpr(t, x)
	}
	if len(known) != len(small(3)) || len(known) < 3000 || pairs < 2500 {
		t.Error("few expressions, or few parentheses:", len(known), pairs)
	}
}

// P11.3: the texts of expressions by chance.
func TestTextsByChance(t *testing.T) {
	known := map[string]api.Expr{}
	pairs := 0
	chance(6000, func(x api.Expr) { pairs += checkText(t, known, x) })
	if len(known) < 3000 || pairs < 3000 {
		t.Error("few expressions, or few parentheses:", len(known), pairs)
	}
}

// P11.3: different types have different texts.
func TestDifferentTypes(t *testing.T) {
	types, _ := rightTypes()
	for _, a := range types {
		for _, b := range types {
			s, _ := Type(a)
			other, _ := Type(b)
			if s == "" || (s == other) != same(a, b) {
				t.Errorf("P11.3: the texts of %+v and %+v are %q and %q", a, b, s, other)
			}
		}
	}
}

// P11.3: an expression with another field, operand or place has another text.
func TestNeighbours(t *testing.T) {
	changes := allChanges()
	for _, src := range proper {
		x := expr(src)
		for _, y := range variants(x, changes) {
			if s, e := Expr(y); e == api.OK && (s == src) != same(x, y) {
				t.Fatalf("P11.3: %+v has the text of %+v: %q", y, x, s)
			}
		}
	}
}

// copyOf returns a copy of x that shares no memory with it but for strings.
func copyOf(x api.Expr) api.Expr {
	x.Unit = slices.Clone(x.Unit)
	x.Args = slices.Clone(x.Args)
	for i := range x.Args {
		x.Args[i] = copyOf(x.Args[i])
	}
	return x
}

// P11.1, P11.2: the arguments are not changed.
func TestArguments(t *testing.T) {
	chance(300, func(x api.Expr) {
		f := api.Feature{Name: "f", Entity: "u", Type: api.Type{Kind: api.IntV, Unit: list("a", 1, "b", 2)}, Body: copyOf(x), Version: 3}
		v, _ := tableOf("t", "user", 8, 0, 7)
		m := api.Module{Tables: []api.Table{v}, Features: []api.Feature{f}}
		if _, e := Module(m); e != api.OK {
			t.Fatal("P11.2:", e)
		}
		untouched, _ := tableOf("t", "user", 8, 0, 7)
		if !same(f.Body, x) || !same(m.Tables[0], untouched) || !same(m.Features[0].Body, x) || !same(f.Type.Unit, list("a", 1, "b", 2)) {
			t.Fatalf("P11.2: the arguments changed: %+v", m)
		}
	})
}
