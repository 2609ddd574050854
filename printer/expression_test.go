package printer

import (
	"fmt"
	"math"
	"math/rand/v2"
	"slices"
	"strings"
	"testing"

	"asof/api"
	"asof/checker"
	"asof/parser"
)

// proper are the texts of expressions of proper form, of each kind with each of its operators.
var proper = []string{
	"true", "false", "0", "7", "1152921504606846976", "3 [eur]", "0.000000", "1.500000", "2.000001 [m*s^-1]", `""`, `"a b"`, `@shop "s1"`,
	"total", "rank of (total)", `rank of (@shop "s1")`, "rank of (rank of (1))",
	"-a", "not a", "null(a)", "a + b", "a - b", "a * b", "a / b", "a == b", "a != b", "a < b", "a <= b", "a and b", "a or b",
	"if a then b else c", "a default b", "if not a then -b else c default 1.500000 [eur]",
	"count(t, all)", "count(t, sliding 1 where a)", "count(t, session 1099511627776 where a and not b)",
	"sum(t, a, tumbling 1099511627776)", "mean(t, a, session 1)", "min(t, a, all where false)", "max(t, 1, sliding 9)",
	`first(t, "x", all)`, `last(t, @shop "s", tumbling 1 where null(a))`, "distinct(t, true, all where false)",
	"quantile(t, a, 1, all)", "quantile(t, a, 1000, sliding 5 where b)", "decay(t, a, 1, tumbling 3)", "decay(t, a, 1073741824, session 7 where b)",
	`sum(t, if a then -b * 2 [m] else c default 1.500000, all where not a or b == @k "x" and c < d)`,
	`if count(t, all) < 1 then sum(t, a * 2 - 1, all where b and not c) default 0 else rank of (@u "k")`,
	"total + count(t, all) * rank of (last(t, a, all))",
}

// ranks are those of the kinds of expressions, each with an example.
var ranks = []struct {
	src  string
	rank int
}{
	{"if a then b else c", 0}, {"a default b", 1}, {"a or b", 2}, {"a and b", 3}, {"not a", 4}, {"a == b", 5}, {"a != b", 5}, {"a < b", 5}, {"a <= b", 5},
	{"a + b", 6}, {"a - b", 6}, {"a * b", 7}, {"a / b", 7}, {"-a", 8}, {"null(a)", 9},
	{"a", 9}, {"7", 9}, {"7 [m]", 9}, {"1.500000", 9}, {"true", 9}, {`"("`, 9}, {`@user ")"`, 9}, {"rank of (a)", 9}, {"count(t, all)", 9}, {"sum(t, a, all where b)", 9},
}

// places are those of operands, marked by an x, with the ranks that they ask for.
var places = []struct {
	src  string
	rank int
}{
	{"if x then b else c", 0}, {"if a then x else c", 0}, {"if a then b else x", 0}, {"null(x)", 0}, {"rank of (x)", 0},
	{"x default b", 1}, {"a default x", 2}, {"x or b", 2}, {"a or x", 3}, {"x and b", 3}, {"a and x", 4}, {"not x", 4},
	{"x == b", 6}, {"a == x", 6}, {"x != b", 6}, {"a != x", 6}, {"x < b", 6}, {"a < x", 6}, {"x <= b", 6}, {"a <= x", 6},
	{"x + b", 6}, {"a + x", 7}, {"x - b", 6}, {"a - x", 7}, {"x * b", 7}, {"a * x", 8}, {"x / b", 7}, {"a / x", 8}, {"-x", 8},
	{"sum(t, x, all)", 0}, {"decay(t, x, 5, session 3 where a)", 0}, {"count(t, all where x)", 0}, {"last(t, a, sliding 7 where x)", 0},
}

// expr returns the expression with this source.
func expr(src string) api.Expr {
	x, at, e := parser.Expr([]byte(src))
	if e != api.OK || at != 0 {
		panic(src)
	}
	return x
}

// within returns the expression with this source inside of an aggregate.
func within(src string) api.Expr { return expr("last(t, " + src + ", all)").Args[0] }

// truth returns the literal true.
func truth() api.Expr { return literal(api.BoolV, 1, "") }

// literal returns the literal.
func literal(kind, n int, s string) api.Expr {
	return api.Expr{Kind: api.LitE, Val: api.Value{Kind: kind, N: n, S: s}}
}

// name returns the feature of this name, or the field.
func name(kind int, s string) api.Expr { return api.Expr{Kind: kind, Name: s} }

// of returns an expression with operands.
func of(kind int, op string, args ...api.Expr) api.Expr {
	return api.Expr{Kind: kind, Op: op, Args: args}
}

// over returns an aggregate over the table t.
func over(op string, param int, w api.Window, argument, condition api.Expr) api.Expr {
	return api.Expr{Kind: api.AggE, Op: op, Table: "t", Param: param, Win: w, Args: []api.Expr{argument, condition}}
}

// nest returns an expression of this depth, in which x stands below operations op on one operand.
func nest(depth int, op string, x api.Expr) api.Expr {
	for range depth - 1 {
		x = of(api.UnaryE, op, x)
	}
	return x
}

// count returns the size of x.
func count(x api.Expr) int {
	n := 1
	for _, arg := range x.Args {
		n += count(arg)
	}
	return n
}

// depth returns the depth of x.
func depth(x api.Expr) int {
	n := 0
	for _, arg := range x.Args {
		n = max(n, depth(arg))
	}
	return n + 1
}

// textOfLiteral returns the text of the literal x.
func textOfLiteral(x api.Expr) string {
	s := ""
	switch n := x.Val.N; x.Val.Kind {
	case api.BoolV:
		s = []string{"false", "true"}[n]
	case api.IntV:
		s = fmt.Sprint(n)
	case api.DecV:
		s = fmt.Sprintf("%d.%06d", n/1000000, n%1000000)
	case api.TextV:
		s = `"` + x.Val.S + `"`
	case api.KeyV:
		s = fmt.Sprintf(`@%s "%s"`, x.Name, x.Val.S)
	}
	for i, f := range x.Unit {
		s += []string{" [", "*", "*", "*"}[i] + f.Name
		if f.Exp != 1 {
			s += fmt.Sprintf("^%d", f.Exp)
		}
	}
	return s + strings.Repeat("]", min(len(x.Unit), 1))
}

// textOfAggregate returns the text of the aggregate x with operands of these texts.
func textOfAggregate(x api.Expr, operands []string) string {
	window := map[int]string{api.AllW: "all", api.SlidingW: "sliding %d", api.TumblingW: "tumbling %d", api.SessionW: "session %d"}[x.Win.Kind]
	if x.Win.Kind != api.AllW {
		window = fmt.Sprintf(window, x.Win.Size)
	}
	where := ""
	if !same(x.Args[1], truth()) {
		where = " where " + operands[1]
	}
	switch x.Op {
	case "count":
		return fmt.Sprintf("count(%s, %s%s)", x.Table, window, where)
	case "quantile", "decay":
		return fmt.Sprintf("%s(%s, %s, %d, %s%s)", x.Op, x.Table, operands[0], x.Param, window, where)
	}
	return fmt.Sprintf("%s(%s, %s, %s%s)", x.Op, x.Table, operands[0], window, where)
}

// textWith returns the text of x with operands of these texts.
func textWith(x api.Expr, operands []string) string {
	switch x.Kind {
	case api.LitE:
		return textOfLiteral(x)
	case api.LookupE:
		return fmt.Sprintf("%s of (%s)", x.Name, operands[0])
	case api.AggE:
		return textOfAggregate(x, operands)
	case api.UnaryE:
		return fmt.Sprintf(map[string]string{"-": "-%s", "not": "not %s", "null": "null(%s)"}[x.Op], operands[0])
	case api.BinaryE:
		return fmt.Sprintf("%s %s %s", operands[0], x.Op, operands[1])
	case api.IfE:
		return fmt.Sprintf("if %s then %s else %s", operands[0], operands[1], operands[2])
	case api.DefaultE:
		return fmt.Sprintf("%s default %s", operands[0], operands[1])
	}
	return x.Name
}

// isTextOf says whether the parser leads from this text to x.
func isTextOf(s string, x api.Expr, inside bool) bool {
	if inside {
		s, x = "last(t, "+s+", all)", over("last", 0, api.Window{Kind: api.AllW}, x, truth())
	}
	parsed, _, e := parser.Expr([]byte(s))
	return e == api.OK && same(parsed, x)
}

// wantedText returns the text of x, of proper form: an operand stands between parentheses only if the parser does not lead back to x without them.
func wantedText(x api.Expr, inside bool) string {
	var bare, operands []string
	for _, arg := range x.Args {
		s := wantedText(arg, inside || x.Kind == api.AggE)
		bare, operands = append(bare, s), append(operands, "("+s+")")
	}
	for i := range operands {
		tried := slices.Clone(operands)
		tried[i] = bare[i]
		if isTextOf(textWith(x, tried), x, inside) {
			operands = tried
		}
	}
	return textWith(x, operands)
}

// checkExpr checks Expr of x and returns its text: it is the one that should be printed, and the error is that of checker.Shape.
func checkExpr(t *testing.T, x api.Expr) string {
	t.Helper()
	want, wantE := "", checker.Shape(x)
	if wantE == api.OK {
		want = wantedText(x, false)
	}
	s, e := Expr(x)
	check(t, "P11.1", x, s, e, want, wantE)
	if e == api.OK && !isTextOf(s, x, false) {
		t.Fatalf("P11.3: the parser does not lead back from %q", s)
	}
	return s
}

// isExpr checks that the text of x is this one.
func isExpr(t *testing.T, x api.Expr, want string) {
	t.Helper()
	if s := checkExpr(t, x); s != want {
		t.Errorf("P11.1: the text of %+v is %q, not %q", x, s, want)
	}
}

// P11.1: the rows of the chapter's section 'Examples', and its other examples.
func TestExamples(t *testing.T) {
	a, b, c := name(api.FeatureE, "a"), name(api.FeatureE, "b"), name(api.FeatureE, "c")
	all, sixty := api.Window{Kind: api.AllW}, api.Window{Kind: api.SlidingW, Size: 60}
	clicks := over("count", 0, all, truth(), truth())
	clicks.Table = "clicks"
	calls := over("quantile", 950, sixty, name(api.FieldE, "ms"), name(api.FieldE, "ok"))
	calls.Table = "calls"
	shop := literal(api.KeyV, 0, "s1")
	shop.Name = "shop"
	rank := of(api.LookupE, "", shop)
	rank.Name = "rank"
	two := literal(api.IntV, 2, "")
	two.Unit = list("eur", 1)
	isExpr(t, clicks, "count(clicks, all)")
	isExpr(t, calls, "quantile(calls, ms, 950, sliding 60 where ok)")
	isExpr(t, of(api.UnaryE, "-", of(api.UnaryE, "-", a)), "--a")
	isExpr(t, of(api.BinaryE, "-", a, of(api.BinaryE, "-", b, c)), "a - (b - c)")
	isExpr(t, of(api.UnaryE, "not", of(api.BinaryE, "==", a, b)), "not a == b")
	isExpr(t, of(api.DefaultE, "", of(api.IfE, "", a, b, c), literal(api.IntV, 0, "")), "(if a then b else c) default 0")
	isExpr(t, rank, `rank of (@shop "s1")`)
	isExpr(t, of(api.BinaryE, "+", a, of(api.BinaryE, "*", b, two)), "a + b * 2 [eur]")
	isExpr(t, of(api.BinaryE, "*", of(api.BinaryE, "+", a, b), c), "(a + b) * c")
	x, y := api.Field{Name: "x", Type: api.Type{Kind: api.DecV, Unit: list("eur", 1)}}, api.Field{Name: "y", Type: api.Type{Kind: api.BoolV}}
	checkTable(t, api.Table{Name: "t", Entity: "user", Fields: []api.Field{x, y}, Keep: 9}, "table t of user { x: dec [eur], y: bool } keep 9;", api.OK)
	checkTable(t, api.Table{Name: "t", Entity: "user"}, "table t of user { };", api.OK)
}

// P11.1: literals of each kind, with and without a unit, outside and inside of an aggregate.
func TestLiterals(t *testing.T) {
	check := func(x api.Expr, want string) {
		t.Helper()
		isExpr(t, x, want)
		isExpr(t, over("first", 0, api.Window{Kind: api.AllW}, x, of(api.UnaryE, "null", x)), "first(t, "+want+", all where null("+want+"))")
	}
	numbers := map[int]map[int]string{
		api.IntV: {0: "0", 1: "1", 7: "7", 10: "10", 1000000: "1000000", 1<<60 - 1: "1152921504606846975", 1 << 60: "1152921504606846976"},
		api.DecV: {0: "0.000000", 1: "0.000001", 10: "0.000010", 100000: "0.100000", 999999: "0.999999", 1000000: "1.000000", 1500000: "1.500000", 7000000: "7.000000", 123456789: "123.456789", 1 << 60: "1152921504606.846976"},
	}
	for kind, rows := range numbers {
		for n, text := range rows {
			for _, unit := range rightUnits {
				x := literal(kind, n, "")
				x.Unit = unit.u
				check(x, text+unit.text)
			}
		}
	}
	check(literal(api.BoolV, 0, ""), "false")
	check(truth(), "true")
	for _, s := range []string{"", " ", "a", "a b", "true", "(", ")", "((", "a) + (b", "#", ";", "@", "  a  ", "1 [m]", strings.Repeat("~", 63), strings.Repeat("!", 64)} {
		check(literal(api.TextV, 0, s), `"`+s+`"`)
	}
	for _, s := range []string{"a", "s1", "(", ")", "@", "#", "a[m]", strings.Repeat("~", 32)} {
		for _, kind := range []string{"user", "u", "x_9", longName} {
			x := literal(api.KeyV, 0, s)
			x.Name = kind
			check(x, "@"+kind+` "`+s+`"`)
		}
	}
}

// P11.1: names of features and of fields.
func TestNames(t *testing.T) {
	for _, s := range []string{"a", "x_9", "counts", "nulls", "trues", longName} {
		isExpr(t, name(api.FeatureE, s), s)
		lookup := of(api.LookupE, "", name(api.FeatureE, s))
		lookup.Name = s
		isExpr(t, lookup, s+" of ("+s+")")
		aggregate := over("max", 0, api.Window{Kind: api.AllW}, name(api.FieldE, s), name(api.FieldE, s))
		aggregate.Table = s
		isExpr(t, aggregate, "max("+s+", "+s+", all where "+s+")")
	}
}

// put returns x with y in the place of the names x.
func put(x, y api.Expr) api.Expr {
	if x.Name == "x" {
		return y
	}
	args := x.Args
	x.Args = nil
	for _, arg := range args {
		x.Args = append(x.Args, put(arg, y))
	}
	return x
}

// P11.1: each kind of expression in each place of each other one, between parentheses if its rank is less than the one that the place asks for.
func TestOperands(t *testing.T) {
	for _, place := range places {
		for _, operand := range ranks {
			text := operand.src
			if operand.rank < place.rank {
				text = "(" + text + ")"
			}
			want := strings.Replace(place.src, "x", text, 1)
			around := expr(place.src)
			isInside := around.Kind == api.AggE
			if isInside && operand.src == "true" {
				want = strings.Replace(want, " where true", "", 1) // the condition that is not printed
			}
			isOutside := strings.Contains(operand.src, "t, ") || strings.Contains(operand.src, " of ")
			if !isInside {
				isExpr(t, put(around, expr(operand.src)), want)
			}
			if isInside && !isOutside {
				isExpr(t, put(around, within(operand.src)), want)
			}
			if !isInside && !isOutside && around.Kind != api.LookupE {
				isExpr(t, over("last", 0, api.Window{Kind: api.AllW}, truth(), put(within(place.src), within(operand.src))), "last(t, true, all where "+want+")")
			}
		}
	}
}

// P11.1: every pair of operators of two operands in both orders, and operators of one rank in a row.
func TestPairs(t *testing.T) {
	rankOf := map[string]int{}
	for _, op := range ranks {
		if words := strings.Fields(op.src); len(words) == 3 && words[0] == "a" {
			rankOf[words[1]] = op.rank
		}
	}
	if len(rankOf) != 11 {
		t.Fatal("not all operators:", rankOf)
	}
	around := func(src string, parentheses bool) string {
		if parentheses {
			return "(" + src + ")"
		}
		return src
	}
	for p, rankP := range rankOf {
		for q, rankQ := range rankOf {
			left, right := "a "+p+" b", "b "+q+" c"
			isExpr(t, expr("("+left+") "+q+" c"), around(left, rankP < rankQ || rankP == 5 && rankQ == 5)+" "+q+" c")
			isExpr(t, expr("a "+p+" ("+right+")"), "a "+p+" "+around(right, rankQ <= rankP))
			for o, rankO := range rankOf {
				if rankP != rankQ || rankO != rankP || rankO == 5 {
					continue
				}
				isExpr(t, expr("((a "+o+" b) "+p+" c) "+q+" d"), "a "+o+" b "+p+" c "+q+" d")
				isExpr(t, expr("a "+o+" (b "+p+" (c "+q+" d))"), "a "+o+" (b "+p+" (c "+q+" d))")
				isExpr(t, expr("(a "+o+" (b "+p+" c)) "+q+" d"), "a "+o+" (b "+p+" c) "+q+" d")
				isExpr(t, expr("a "+o+" ((b "+p+" c) "+q+" d)"), "a "+o+" (b "+p+" c "+q+" d)")
				isExpr(t, expr("(a "+o+" b) "+p+" (c "+q+" d)"), "a "+o+" b "+p+" (c "+q+" d)")
			}
		}
	}
}

// P11.1: texts with more than they need, and the text that is printed.
func TestRows(t *testing.T) {
	for src, want := range map[string]string{
		"((a))": "a", "-(-a)": "--a", "-(-(-(a)))": "---a", "-(7)": "-7", "a-(-b)": "a - -b", "a-(-(-b))": "a - --b", "(-a)*(-b)": "-a * -b", "-(a*b)": "-(a * b)", "-(a+b)": "-(a + b)", "(-a)+b": "-a + b",
		"not (not a)": "not not a", "-(not a)": "-(not a)", "not (-a)": "not -a", "-(not (-(not a)))": "-(not -(not a))", "not ((not a) and b)": "not (not a and b)", "(not a) == b": "(not a) == b", "not (a == b)": "not a == b", "a == (not b)": "a == (not b)",
		"(a == b) == c": "(a == b) == c", "a < (b < c)": "a < (b < c)", "(a == b) != (c <= d)": "(a == b) != (c <= d)", "not ((a < b) == c)": "not (a < b) == c", "(a < b) and (c < d)": "a < b and c < d", "(a + b) < (c * d)": "a + b < c * d",
		"a and (not b)": "a and not b", "(not a) or (not b)": "not a or not b", "not (a or b)": "not (a or b)", "(not a) default (not b)": "not a default not b",
		"(a default b) default c": "a default b default c", "a default (b default c)": "a default (b default c)", "(a or b) default (c and d)": "a or b default c and d", "a or (b default c)": "a or (b default c)",
		"(if a then b else c) default d": "(if a then b else c) default d", "a default (if b then c else d)": "a default (if b then c else d)", "if a then b else (c default d)": "if a then b else c default d", "if (a default b) then (b default c) else c": "if a default b then b default c else c",
		"if (if a then b else c) then (if a then b else c) else (if a then b else c)": "if if a then b else c then if a then b else c else if a then b else c",
		"(if a then b else c) + 1": "(if a then b else c) + 1", "1 + (if a then b else c)": "1 + (if a then b else c)", "-(if a then b else c)": "-(if a then b else c)", "not (if a then b else c)": "not (if a then b else c)",
		"null((a))": "null(a)", "null((a default b))": "null(a default b)", "null((if a then b else c))": "null(if a then b else c)", "-null(a)": "-null(a)", "not null(a)": "not null(a)", "null(null(a))": "null(null(a))",
		"a of ((b))": "a of (b)", "a of ((if b then c else d))": "a of (if b then c else d)", "a of ((b of (c)))": "a of (b of (c))", "-(a of (b))": "-a of (b)", "(a of (b)) default c": "a of (b) default c", "a of (-b)": "a of (-b)",
		"1.5": "1.500000", "007": "7", "00.50": "0.500000", "7 [s*m]": "7 [m*s]", "7[m*m]": "7 [m^2]", "7 [m^0]": "7", "7 [m*s^-1*m^-1]": "7 [s^-1]", `@ u "k"`: `@u "k"`,
		"count(t,all where true)": "count(t, all)", "count(t, all where (true))": "count(t, all)", "count(t, all where not false)": "count(t, all where not false)", "count(t, all where true and true)": "count(t, all where true and true)", "count(t, all where true == true)": "count(t, all where true == true)", `count(t, all where "true")`: `count(t, all where "true")`, "count(t, all where false)": "count(t, all where false)", "count(t, all where 1)": "count(t, all where 1)",
		"sum(t, (a), all where (a))": "sum(t, a, all where a)", "sum(t, true, all)": "sum(t, true, all)", "distinct(t, true, all where true)": "distinct(t, true, all)", "sum(t, (if a then b else c), all where (if a then b else c))": "sum(t, if a then b else c, all where if a then b else c)", "sum(t, (a default b), session 07)": "sum(t, a default b, session 7)", "quantile(t, (a), 0500, all)": "quantile(t, a, 500, all)",
		"-(sum(t, a, all))": "-sum(t, a, all)", "(sum(t, a, all)) / (count(t, all))": "sum(t, a, all) / count(t, all)",
		"a # a comment\n\t+\r\nb": "a + b",
	} {
		isExpr(t, expr(src), want)
	}
}

// P11.1: each aggregate with its Params, each window and several conditions.
func TestAggregates(t *testing.T) {
	windows := map[string]api.Window{"all": {Kind: api.AllW}}
	for _, size := range []int{1, 7, 60, 1 << 40} {
		windows[fmt.Sprint("sliding ", size)] = api.Window{Kind: api.SlidingW, Size: size}
		windows[fmt.Sprint("tumbling ", size)] = api.Window{Kind: api.TumblingW, Size: size}
		windows[fmt.Sprint("session ", size)] = api.Window{Kind: api.SessionW, Size: size}
	}
	params := map[string][]int{"quantile": {1, 2, 500, 999, 1000}, "decay": {1, 10, 1000, 1001, 1<<30 - 1, 1 << 30}}
	arguments := map[string]api.Expr{"a": name(api.FieldE, "a"), "true": truth(), "-a default 7": within("(-a) default 7"), "7 [m]": within("7 [m]")}
	conditions := map[string]api.Expr{"": truth(), " where false": literal(api.BoolV, 0, ""), " where b": name(api.FieldE, "b"), " where not b or a": within("(not b) or a"), " where if true then true else b": within("if true then true else b")}
	for window, w := range windows {
		for where, condition := range conditions {
			isExpr(t, over("count", 0, w, truth(), condition), "count(t, "+window+where+")")
			for text, argument := range arguments {
				for _, op := range strings.Fields("sum mean min max first last distinct") {
					isExpr(t, over(op, 0, w, argument, condition), op+"(t, "+text+", "+window+where+")")
				}
				for op, l := range params {
					for _, param := range l {
						isExpr(t, over(op, param, w, argument, condition), fmt.Sprint(op, "(t, ", text, ", ", param, ", ", window, where, ")"))
					}
				}
			}
		}
	}
}

// chain returns a sum of this many features a, with the sums on the left or on the right, and its text.
func chain(n int, isLeft bool) (x api.Expr, text string) {
	x, text = name(api.FeatureE, "a"), "a"
	for i := 1; i < n; i++ {
		switch a := name(api.FeatureE, "a"); {
		case isLeft:
			x, text = of(api.BinaryE, "+", x, a), text+" + a"
		case i == 1:
			x, text = of(api.BinaryE, "+", a, x), "a + a"
		default:
			x, text = of(api.BinaryE, "+", a, x), "a + ("+text+")"
		}
	}
	return x, text
}

// balanced returns a conjunction of depth below it, and of size 2^depth - 1, and its text.
func balanced(depth int) (x api.Expr, text string) {
	if depth == 1 {
		return truth(), "true"
	}
	x, text = balanced(depth - 1)
	if depth == 2 {
		return of(api.BinaryE, "and", x, x), text + " and " + text
	}
	return of(api.BinaryE, "and", x, x), text + " and (" + text + ")"
}

// P11.1: expressions that are as large and as deep as they may be, and larger and deeper ones.
func TestLimits(t *testing.T) {
	for _, isLeft := range []bool{false, true} {
		for n := 1; n <= 14; n++ {
			x, text := chain(n, isLeft)
			if n > 12 {
				text = ""
			}
			isExpr(t, x, text)
		}
	}
	for n := 1; n <= 14; n++ {
		want := map[string]string{"-": strings.Repeat("-", n-1) + "a", "not": strings.Repeat("not ", n-1) + "a", "null": strings.Repeat("null(", n-1) + "a" + strings.Repeat(")", n-1)}
		for op, text := range want {
			if n > 12 {
				text = ""
			}
			isExpr(t, nest(n, op, name(api.FeatureE, "a")), text)
		}
	}
	x, text := balanced(6)
	isExpr(t, x, text)
	isExpr(t, of(api.UnaryE, "not", x), "not ("+text+")")
	isExpr(t, of(api.UnaryE, "-", of(api.UnaryE, "-", x)), "")
	isExpr(t, of(api.BinaryE, "or", x, truth()), "")
	all := api.Window{Kind: api.AllW}
	small, smallText := balanced(5)
	isExpr(t, over("count", 0, all, truth(), of(api.BinaryE, "or", of(api.BinaryE, "and", small, small), small)), "")
	isExpr(t, over("count", 0, all, truth(), of(api.BinaryE, "<", small, of(api.UnaryE, "-", small))), "")
	isExpr(t, of(api.BinaryE, "<", small, of(api.UnaryE, "-", small)), "("+smallText+") < -("+smallText+")")
	isExpr(t, api.Expr{Kind: api.IfE, Args: make([]api.Expr, 1<<16)}, "")
	isExpr(t, nest(1<<16, "not", truth()), "")
	if s, e := Expr(of(api.BinaryE, "or", x, truth())); s != "" || e != api.ErrLimit {
		t.Error("P11.1: an expression of size 65:", s, e)
	}
	if s, e := Expr(nest(13, "not", truth())); s != "" || e != api.ErrLimit {
		t.Error("P11.1: an expression of depth 13:", s, e)
	}
}

// variants returns x with itself, or one of the expressions in it, changed by each of the functions.
func variants(x api.Expr, changes []func(x *api.Expr)) (l []api.Expr) {
	for _, change := range changes {
		y := x
		change(&y)
		l = append(l, y)
	}
	for i, arg := range x.Args {
		for _, y := range variants(arg, changes) {
			z := x
			z.Args = slices.Clone(x.Args)
			z.Args[i] = y
			l = append(l, z)
		}
	}
	return l
}

// allChanges returns changes of each field of an expression.
func allChanges() (l []func(x *api.Expr)) {
	for _, kind := range []int{math.MinInt, -1, 0, 1, 2, 3, 4, 5, 6, 7, 8, 9, 10, 1<<32 + 1, math.MaxInt} {
		l = append(l, func(x *api.Expr) { x.Kind = kind }, func(x *api.Expr) { x.Val.Kind = kind }, func(x *api.Expr) { x.Win.Kind = kind })
	}
	for _, s := range append([]string{"a", "sum", "quantile", "decay", "last", "null", "not", "-", "+", "/", "==", "<=", "or", "default", "median", "=", "%"}, wrongNames...) {
		l = append(l, func(x *api.Expr) { x.Op = s }, func(x *api.Expr) { x.Name = s }, func(x *api.Expr) { x.Table = s }, func(x *api.Expr) { x.Val.S = s })
	}
	for _, n := range []int{math.MinInt, -1, 0, 1, 2, 1000, 1001, 1 << 30, 1<<30 + 1, 1 << 40, 1<<40 + 1, 1 << 60, 1<<60 + 1, math.MaxInt} {
		l = append(l, func(x *api.Expr) { x.Param = n }, func(x *api.Expr) { x.Val.N = n }, func(x *api.Expr) { x.Win.Size = n })
	}
	for _, unit := range rightUnits {
		l = append(l, func(x *api.Expr) { x.Unit = unit.u })
	}
	for _, u := range wrongUnits {
		l = append(l, func(x *api.Expr) { x.Unit = u })
	}
	for n := range 4 {
		args := []api.Expr{truth(), literal(api.IntV, 7, ""), {Kind: api.FieldE, Name: "a"}, name(api.FeatureE, "a")}
		l = append(l, func(x *api.Expr) { x.Args = args[:n] }, func(x *api.Expr) { x.Args = append(slices.Clone(x.Args), args[n]) }, func(x *api.Expr) { *x = args[n] }, func(x *api.Expr) { x.Args = x.Args[:min(n, len(x.Args))] })
	}
	return append(l, func(x *api.Expr) { x.Args = []api.Expr{} }, func(x *api.Expr) { *x = api.Expr{} })
}

// P11.1: expressions of each kind, with each field right and wrong: the error is that of checker.Shape.
func TestWrongExpr(t *testing.T) {
	found := map[bool]int{}
	changes := allChanges()
	for _, src := range proper {
		isExpr(t, expr(src), src)
		for _, x := range variants(expr(src), changes) {
			found[checkExpr(t, x) == ""]++
		}
	}
	if found[false] < 2000 || found[true] < 5000 {
		t.Error("few expressions:", found)
	}
}

// P11.1: expressions that do not have proper form, with their errors.
func TestWrongRows(t *testing.T) {
	all, a, field := api.Window{Kind: api.AllW}, name(api.FeatureE, "a"), name(api.FieldE, "a")
	deep := nest(12, "null", a)
	for i, row := range []struct {
		x api.Expr
		e api.Errno
	}{
		{api.Expr{}, api.ErrForm}, {api.Expr{Kind: 10, Name: "a"}, api.ErrForm}, {literal(api.NullV, 0, ""), api.ErrForm}, {literal(api.BoolV, 2, ""), api.ErrForm}, {literal(api.IntV, -1, ""), api.ErrForm}, {literal(api.DecV, 1<<60+1, ""), api.ErrForm}, {literal(api.TextV, 0, `"`), api.ErrForm}, {literal(api.KeyV, 0, "k"), api.ErrForm},
		{field, api.ErrForm}, {name(api.FeatureE, "if"), api.ErrForm}, {name(api.FeatureE, ""), api.ErrForm}, {of(api.LookupE, "", a), api.ErrForm}, {over("sum", 0, all, a, truth()), api.ErrForm}, {over("count", 0, all, field, truth()), api.ErrForm}, {over("sum", 0, all, over("count", 0, all, truth(), truth()), truth()), api.ErrForm},
		{over("sum", 1, all, field, truth()), api.ErrForm}, {over("quantile", 0, all, field, truth()), api.ErrForm}, {over("quantile", 1001, all, field, truth()), api.ErrForm}, {over("decay", 1<<30+1, all, field, truth()), api.ErrForm}, {over("sum", 0, api.Window{}, field, truth()), api.ErrForm}, {over("sum", 0, api.Window{Kind: 5, Size: 1}, field, truth()), api.ErrForm}, {over("sum", 0, api.Window{Kind: api.SessionW}, field, truth()), api.ErrForm},
		{of(api.UnaryE, "+", a), api.ErrForm}, {of(api.UnaryE, "-"), api.ErrForm}, {of(api.BinaryE, ">", a, a), api.ErrForm}, {of(api.BinaryE, "+", a), api.ErrForm}, {of(api.BinaryE, "default", a, a), api.ErrForm}, {of(api.IfE, "", a, a), api.ErrForm}, {of(api.DefaultE, "default", a, a), api.ErrForm}, {of(api.DefaultE, "", a, a, a), api.ErrForm}, {of(api.BinaryE, "*", a, of(api.UnaryE, "-", field)), api.ErrForm},
		{deep, api.OK}, {of(api.UnaryE, "-", deep), api.ErrLimit}, {of(api.UnaryE, "?", deep), api.ErrLimit}, {of(api.IfE, "", deep, deep, deep, deep, deep, deep), api.ErrLimit}, {api.Expr{Args: make([]api.Expr, 64)}, api.ErrLimit}, {api.Expr{Args: make([]api.Expr, 63)}, api.ErrForm},
	} {
		if s, e := Expr(row.x); e != row.e || (s == "") != (e != api.OK) {
			t.Errorf("P11.1: Expr of row %d returns %q and the code %d, not %d", i, s, e, row.e)
		}
	}
}

// maker makes expressions of proper form by chance.
type maker struct {
	r      *rand.Rand
	inside bool
}

// primary returns an expression without operands.
func (m maker) primary() api.Expr {
	unit := pick(m.r, rightUnits).u
	switch m.r.IntN(8) {
	case 0:
		return api.Expr{Kind: api.LitE, Val: api.Value{Kind: api.IntV, N: pick(m.r, []int{0, 1, 2, 10, 999999, 1000000, 1 << 60})}, Unit: unit}
	case 1:
		return api.Expr{Kind: api.LitE, Val: api.Value{Kind: api.DecV, N: pick(m.r, []int{0, 1, 2, 10, 999999, 1000000, 1 << 60})}, Unit: unit}
	case 2:
		return literal(api.TextV, 0, pick(m.r, []string{"", "a", "true", "(", ")", "a) default (b", "@", " ", strings.Repeat("a", 64)}))
	case 3:
		x := literal(api.KeyV, 0, pick(m.r, []string{"a", "(", ")", "k)", strings.Repeat("a", 32)}))
		x.Name = pick(m.r, []string{"user", "a", longName})
		return x
	case 4:
		return literal(api.BoolV, m.r.IntN(2), "")
	}
	s := pick(m.r, []string{"a", "b", "nota", "if_", "t", longName})
	if m.inside {
		return name(api.FieldE, s)
	}
	return name(api.FeatureE, s)
}

// aggregate returns an aggregate whose operands have at most this depth.
func (m maker) aggregate(depth int) api.Expr {
	m.inside = true
	op := pick(m.r, strings.Fields("count sum mean min max first last distinct quantile decay"))
	param, argument, condition := 0, m.expr(depth), truth()
	w := api.Window{Kind: 1 + m.r.IntN(4), Size: pick(m.r, []int{1, 2, 10, 1 << 40})}
	switch op {
	case "count":
		argument = truth()
	case "quantile", "decay":
		param = pick(m.r, []int{1, 2, 100, 1000})
	}
	if w.Kind == api.AllW {
		w.Size = 0
	}
	if m.r.IntN(2) == 0 {
		condition = m.expr(depth)
	}
	x := over(op, param, w, argument, condition)
	x.Table = pick(m.r, []string{"t", "a", longName})
	return x
}

// expr returns an expression of at most this depth.
func (m maker) expr(depth int) api.Expr {
	if depth <= 1 || m.r.IntN(5) == 0 {
		return m.primary()
	}
	below := func() api.Expr { return m.expr(depth - 1) }
	switch m.r.IntN(11) {
	case 0, 1:
		return of(api.UnaryE, pick(m.r, []string{"-", "not", "null"}), below())
	case 2, 3, 4, 5:
		return of(api.BinaryE, pick(m.r, strings.Fields("+ - * / == != < <= and or")), below(), below())
	case 6, 7:
		return of(api.DefaultE, "", below(), below())
	case 8:
		return of(api.IfE, "", below(), below(), below())
	}
	switch {
	case m.inside:
		return m.primary()
	case m.r.IntN(2) == 0:
		return m.aggregate(depth - 1)
	}
	x := of(api.LookupE, "", below())
	x.Name = pick(m.r, []string{"a", "b", longName})
	return x
}

// chance calls the function for so many expressions of proper form, of all sizes.
func chance(n int, f func(x api.Expr)) {
	m := maker{r: random()}
	for made := 0; made < n; {
		x := m.expr(1 + made%12)
		if count(x) <= 64 {
			f(x)
			made++
		}
	}
}

// P11.1: expressions by chance.
func TestByChance(t *testing.T) {
	deep, large := 0, 0
	chance(3000, func(x api.Expr) {
		if checkExpr(t, x) == "" {
			t.Fatalf("P11.1: %+v has no text", x)
		}
		if depth(x) > 8 {
			deep++
		}
		if count(x) > 30 {
			large++
		}
	})
	if deep < 100 || large < 100 {
		t.Error("few deep or large expressions:", deep, large)
	}
}
