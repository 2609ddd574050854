package checker

import (
	"fmt"
	"math"
	"math/bits"
	"math/rand/v2"
	"slices"
	"strconv"
	"strings"
	"testing"

	"asof/api"
	"asof/parser"
	"asof/units"
)

// proper are sources of expressions of proper form, of each kind with each of its operators.
var proper = []string{
	"true", "false", "0", "7", "1152921504606846976", "3 [eur]", "0.0", "1.5", "2.000001 [m*s^-1]", `""`, `"a b"`, `@shop "s1"`,
	"total", "rank of (total)", `rank of (@shop "s1")`, "rank of (rank of (1))",
	"-a", "not a", "null(a)", "a + b", "a - b", "a * b", "a / b", "a == b", "a != b", "a < b", "a <= b", "a and b", "a or b",
	"if a then b else c", "a default b", "if not a then -b else c default 1.5 [eur]",
	"count(t, all)", "count(t, sliding 1 where a)", "count(t, session 1099511627776 where a and not b)",
	"sum(t, a, tumbling 1099511627776)", "mean(t, a, session 1)", "min(t, a, all where true)", "max(t, 1, sliding 9)",
	`first(t, "x", all)`, `last(t, @shop "s", tumbling 1 where null(a))`, "distinct(t, true, all where false)",
	"quantile(t, a, 1, all)", "quantile(t, a, 1000, sliding 5 where b)", "decay(t, a, 1, tumbling 3)", "decay(t, a, 1073741824, session 7 where b)",
	`sum(t, if a then -b * 2 [m] else c default 1.5, all where not a or b == @k "x" and c < d)`,
	`if count(t, all) < 1 then sum(t, a * 2 - 1, all where b and not c) default 0 else rank of (@u "k")`,
	"total + count(t, all) * rank of (last(t, a, all))",
}

// written returns x as a source in which each operand stands between parentheses, without what its kind does not have; the source is not well-formed if there is none.
func written(x api.Expr) string {
	operand := func(i int) string {
		if i >= len(x.Args) {
			return "?"
		}
		return "(" + written(x.Args[i]) + ")"
	}
	switch x.Kind {
	case api.LitE:
		return writtenValue(x)
	case api.FieldE, api.FeatureE:
		return x.Name
	case api.LookupE:
		return x.Name + " of " + operand(0)
	case api.AggE:
		parts := []string{x.Table, operand(0), strconv.Itoa(x.Param), writtenWindow(x.Win) + " where " + operand(1)}
		switch {
		case x.Op == "count":
			parts = slices.Delete(parts, 1, 3)
		case x.Op != "quantile" && x.Op != "decay":
			parts = slices.Delete(parts, 2, 3)
		}
		return x.Op + "(" + strings.Join(parts, ", ") + ")"
	case api.UnaryE:
		return x.Op + operand(0)
	case api.BinaryE:
		return operand(0) + " " + x.Op + " " + operand(1)
	case api.IfE:
		return "if " + operand(0) + " then " + operand(1) + " else " + operand(2)
	case api.DefaultE:
		return operand(0) + " default " + operand(1)
	}
	return "?"
}

// writtenValue returns the literal x as a source.
func writtenValue(x api.Expr) (s string) {
	n := x.Val.N
	switch x.Val.Kind {
	case api.BoolV:
		s = map[int]string{0: "false", 1: "true"}[n]
	case api.IntV:
		s = strconv.Itoa(n)
	case api.DecV:
		s = fmt.Sprintf("%d.%06d", n/1000000, n%1000000)
	case api.TextV:
		s = `"` + x.Val.S + `"`
	case api.KeyV:
		s = "@" + x.Name + ` "` + x.Val.S + `"`
	}
	if len(x.Unit) > 0 {
		s += " [" + units.Format(x.Unit) + "]"
	}
	return s
}

// writtenWindow returns the window as a source.
func writtenWindow(w api.Window) string {
	switch w.Kind {
	case api.AllW:
		return "all"
	case api.SlidingW:
		return "sliding " + strconv.Itoa(w.Size)
	case api.TumblingW:
		return "tumbling " + strconv.Itoa(w.Size)
	case api.SessionW:
		return "session " + strconv.Itoa(w.Size)
	}
	return "?"
}

// isInRange says whether the numbers in x that the grammar does not limit are in range: Param, and the sizes of windows.
func isInRange(x api.Expr) bool {
	greatest := map[string]int{"quantile": 1000, "decay": 1 << 30}[x.Op]
	if x.Kind == api.AggE && (x.Param > greatest || greatest > 0 && x.Param == 0 || x.Win.Size > 1<<40 || x.Win.Kind != api.AllW && x.Win.Size == 0) {
		return false
	}
	return !slices.ContainsFunc(x.Args, func(y api.Expr) bool { return !isInRange(y) })
}

// wantedShape returns what Shape should return: an expression has proper form if it can be written in the language, its numbers are in range, and it is neither too large nor too deep.
func wantedShape(x api.Expr) api.Errno {
	if count(x) >= 65 || len(levels(x)) >= 13 {
		return 2
	}
	parsed, _, e := parser.Expr([]byte(written(x)))
	if e == api.OK && same(parsed, x) && isInRange(x) {
		return 0
	}
	return 3
}

// sized returns an expression of proper form, and of the type bool, with this size and this depth, which must be possible.
func sized(n, depth int) api.Expr {
	switch {
	case n == 1:
		return expr("true")
	case n == depth:
		return api.Expr{Kind: api.UnaryE, Op: "not", Args: []api.Expr{sized(n-1, depth-1)}}
	}
	small := min(n-depth, 1<<(depth-1)-1)
	return api.Expr{Kind: api.BinaryE, Op: "and", Args: []api.Expr{sized(n-1-small, depth-1), sized(small, bits.Len(uint(small)))}}
}

// variants returns x with itself, or one of the expressions in it, replaced by each of what the function returns for it.
func variants(x api.Expr, change func(x api.Expr) []api.Expr) []api.Expr {
	l := change(x)
	for i, arg := range x.Args {
		for _, y := range variants(arg, change) {
			l = append(l, withArg(x, i, y))
		}
	}
	return l
}

// withArg returns x with the operand of this index replaced.
func withArg(x api.Expr, i int, arg api.Expr) api.Expr {
	x.Args = slices.Clone(x.Args)
	x.Args[i] = arg
	return x
}

// valuesOfAllSorts returns values that are valid and values that are not.
func valuesOfAllSorts() (l []api.Value) {
	for kind := -1; kind <= 6; kind++ {
		for _, n := range []int{0, 1, 2, 7, 1 << 60, 1<<60 + 1, -1, -7, -1 << 60, math.MinInt, math.MaxInt} {
			l = append(l, api.Value{Kind: kind, N: n}, api.Value{Kind: kind, N: n, S: "a"})
		}
		for _, s := range []string{" ", "a b", "~!#", "ä", "\n", `"`, `\`, "\x7f", strings.Repeat("k", 32), strings.Repeat("k", 33), strings.Repeat("k", 64), strings.Repeat("k", 65)} {
			l = append(l, api.Value{Kind: kind, S: s})
		}
	}
	return l
}

// windowsOfAllSorts returns windows that are right and windows that are not.
func windowsOfAllSorts() (l []api.Window) {
	for _, kind := range []int{math.MinInt, -1, 0, 1, 2, 3, 4, 5, 1<<32 + 2, math.MaxInt} {
		for _, size := range []int{math.MinInt, -1, 0, 1, 2, 1<<32 + 1, 1<<40 - 1, 1 << 40, 1<<40 + 1, math.MaxInt} {
			l = append(l, api.Window{Kind: kind, Size: size})
		}
	}
	return l
}

// changeStrings returns x with each of its strings replaced.
func changeStrings(x api.Expr) (l []api.Expr) {
	with := func(change func(y *api.Expr)) {
		y := x
		change(&y)
		l = append(l, y)
	}
	ops := strings.Fields("+ - * / == != < <= = ! > >= % ^ ( ) [ , ; @ # && || an ors mode Sum NOT null( -- table1 x of")
	for _, op := range slices.Concat(ops, keywords, []string{"", " ", "- ", "not ", "+ 1 +", "a, b", "\n"}) {
		with(func(y *api.Expr) { y.Op = op })
	}
	for _, name := range names() {
		with(func(y *api.Expr) { y.Name = name })
		with(func(y *api.Expr) { y.Table = name })
	}
	return l
}

// changeNumbers returns x with its kind, its Param, its value, its unit or its window replaced.
func changeNumbers(x api.Expr) (l []api.Expr) {
	with := func(change func(y *api.Expr)) {
		y := x
		change(&y)
		l = append(l, y)
	}
	for _, kind := range []int{math.MinInt, -1, 0, 1, 2, 3, 4, 5, 6, 7, 8, 9, 10, 11, 1<<32 + 1, math.MaxInt} {
		with(func(y *api.Expr) { y.Kind = kind })
	}
	for _, param := range []int{math.MinInt, -1, 0, 1, 2, 500, 999, 1000, 1001, 1<<30 - 1, 1 << 30, 1<<30 + 1, 1<<32 + 1, 1 << 60, math.MaxInt} {
		with(func(y *api.Expr) { y.Param = param })
	}
	for _, v := range valuesOfAllSorts() {
		with(func(y *api.Expr) { y.Val = v })
	}
	for _, u := range unitLists() {
		with(func(y *api.Expr) { y.Unit = u })
	}
	for _, w := range windowsOfAllSorts() {
		with(func(y *api.Expr) { y.Win = w })
	}
	return l
}

// changeOperands returns x with fewer, more and other operands, and what stands in its place.
func changeOperands(x api.Expr) (l []api.Expr) {
	with := func(args ...api.Expr) {
		y := x
		y.Args = args
		l = append(l, y)
	}
	with()
	l[0].Args = []api.Expr{}
	for n := range 4 {
		var args []api.Expr
		for i := range n {
			args = append(args, expr([]string{"true", "1", "a"}[i]))
		}
		with(args...)
		with(append(slices.Clone(x.Args), args...)...)
	}
	for i := range x.Args {
		with(slices.Delete(slices.Clone(x.Args), i, i+1)...)
	}
	for _, src := range proper {
		l = append(l, expr(src))
	}
	return append(l, api.Expr{Kind: api.FieldE, Name: "a"}, api.Expr{Kind: api.FieldE, Name: "sum"}, api.Expr{})
}

// checkShape compares Shape of x with what it should be, and returns this.
func checkShape(t *testing.T, x api.Expr) api.Errno {
	t.Helper()
	want := wantedShape(x)
	if e := Shape(x); e != want {
		t.Fatalf("P10.1: Shape of %+v, written %s, returns %d, not %d", x, written(x), e, want)
	}
	return want
}

// P10.1: expressions of each kind, with each field right and wrong, outside and inside of each other.
func TestShape(t *testing.T) {
	found := map[api.Errno]int{}
	for _, src := range proper {
		x := expr(src)
		if e := checkShape(t, x); e != api.OK {
			t.Fatal("P10.1: Shape of", src, "returns", e)
		}
		for _, change := range []func(x api.Expr) []api.Expr{changeStrings, changeNumbers, changeOperands} {
			for _, y := range variants(x, change) {
				found[checkShape(t, y)]++
			}
		}
	}
	for _, e := range []api.Errno{api.OK, api.ErrForm} {
		if found[e] < 3000 {
			t.Error("few expressions with the code", e, found)
		}
	}
}

// P10.1: a field that a kind does not have must be zero, for each kind.
func TestZeroFields(t *testing.T) {
	others := map[string]func(x *api.Expr){
		"Op":    func(x *api.Expr) { x.Op = "+" },
		"Name":  func(x *api.Expr) { x.Name = "a" },
		"Table": func(x *api.Expr) { x.Table = "t" },
		"Val":   func(x *api.Expr) { x.Val = api.Value{Kind: api.BoolV, N: 1} },
		"N":     func(x *api.Expr) { x.Val = api.Value{N: 1} },
		"S":     func(x *api.Expr) { x.Val = api.Value{S: "a"} },
		"Unit":  func(x *api.Expr) { x.Unit = list("eur", 1) },
		"Param": func(x *api.Expr) { x.Param = 1 },
		"Win":   func(x *api.Expr) { x.Win.Kind = api.AllW },
		"Size":  func(x *api.Expr) { x.Win.Size = 1 },
		"Args":  func(x *api.Expr) { x.Args = append(slices.Clone(x.Args), expr("true")) },
	}
	for src, has := range map[string]string{
		"true": "Val", "1": "Val Unit", "1.5": "Val Unit", `"a"`: "Val", `@shop "s"`: "Name",
		"total": "Name", "rank of (total)": "Name",
		"sum(t, a, all)": "Table", "quantile(t, a, 500, sliding 5)": "Table Param Size", "decay(t, a, 500, all)": "Table Param Win",
		"not a": "", "a + b": "Op", "if a then b else c": "", "a default b": "",
	} {
		for name, change := range others {
			x := expr(src)
			change(&x)
			if e := Shape(x); (e == api.OK) != slices.Contains(strings.Fields(has), name) && !same(x, expr(src)) {
				t.Errorf("P10.1: Shape of %s with another %s returns %d", src, name, e)
			}
		}
	}
	for name, change := range others {
		x := expr("first(t, a, all)")
		if name != "Name" {
			change(&x.Args[0])
			if e := Shape(x); e != api.ErrForm {
				t.Errorf("P10.1: Shape of a field with a %s returns %d", name, e)
			}
		}
	}
}

// somewhere returns x with one of the expressions in it, or x itself, replaced by what the function returns for it.
func somewhere(r *rand.Rand, x api.Expr, change func(x api.Expr) api.Expr) api.Expr {
	at := r.IntN(count(x))
	if at == 0 {
		return change(x)
	}
	for i, arg := range x.Args {
		if at -= count(arg); at <= 0 {
			return withArg(x, i, somewhere(r, arg, change))
		}
	}
	panic("not found")
}

// P10.1: two and more changes at once, and expressions of chance in each other.
func TestShapeByChance(t *testing.T) {
	r := random()
	var sources []api.Expr
	for _, src := range proper {
		sources = append(sources, expr(src))
	}
	changes := []func(x api.Expr) []api.Expr{changeStrings, changeNumbers, changeNumbers, changeOperands}
	found := map[api.Errno]int{}
	for i := range 1200 {
		x := pick(r, sources)
		for range i % 60 {
			y := somewhere(r, x, func(y api.Expr) api.Expr {
				around := pick(r, sources)
				if len(around.Args) == 0 {
					return y
				}
				return withArg(around, r.IntN(len(around.Args)), y)
			})
			e := checkShape(t, y)
			if found[e]++; e == api.OK {
				x = y
			}
		}
		for range 1 + r.IntN(3) {
			x = somewhere(r, x, func(y api.Expr) api.Expr { return pick(r, pick(r, changes)(y)) })
			found[checkShape(t, x)]++
		}
	}
	for _, e := range []api.Errno{api.OK, api.ErrForm, api.ErrLimit} {
		if found[e] < 1000 {
			t.Error("few expressions with the code", e, found)
		}
	}
}

// P10.1: sizes around MaxSize and depths around MaxDepth; what is too large or too deep may have a wrong form.
func TestLimits(t *testing.T) {
	wrong := func(x api.Expr) []api.Expr { return []api.Expr{{Kind: x.Kind, Op: "wrong", Args: x.Args}} }
	for n := 1; n <= 70; n++ {
		for d := 1; d <= 15; d++ {
			if d > n || n >= 1<<d {
				continue
			}
			want, wantWrong := api.OK, api.ErrForm
			if n > 64 || d > 12 {
				want, wantWrong = api.ErrLimit, api.ErrLimit
			}
			x := sized(n, d)
			if e := Shape(x); e != want {
				t.Errorf("P10.1: Shape of size %d and depth %d returns %d", n, d, e)
			}
			_, e := Infer(api.Catalog{}, "user", x)
			if e != want {
				t.Errorf("P10.1: Infer of size %d and depth %d returns %d", n, d, e)
			}
			for _, y := range variants(x, wrong) {
				if e := Shape(y); e != wantWrong {
					t.Fatalf("P10.1: Shape of size %d and depth %d with a wrong form returns %d", n, d, e)
				}
			}
		}
	}
}

// P10.1: the operands of an aggregate count as all others.
func TestLimitsOfAggregates(t *testing.T) {
	condition := func(n, depth int) api.Expr {
		return withArg(expr("count(t, all where true)"), 1, sized(n, depth))
	}
	for _, row := range []struct {
		x api.Expr
		e api.Errno
	}{
		{condition(11, 11), api.OK},
		{condition(12, 12), api.ErrLimit},
		{condition(62, 11), api.OK},
		{condition(63, 11), api.ErrLimit},
		{condition(62, 6), api.OK},
		{condition(63, 6), api.ErrLimit},
		{withArg(expr("a + 1"), 0, condition(10, 10)), api.OK},
		{withArg(expr("a + 1"), 0, condition(11, 11)), api.ErrLimit},
		{withArg(expr("a + 1"), 0, condition(60, 10)), api.OK},
		{withArg(expr("a + 1"), 0, condition(61, 10)), api.ErrLimit},
		{api.Expr{Args: make([]api.Expr, 1<<20)}, api.ErrLimit},
		{api.Expr{Args: make([]api.Expr, 64)}, api.ErrLimit},
		{api.Expr{Args: make([]api.Expr, 63)}, api.ErrForm},
		{nest(12, api.Expr{}), api.ErrForm},
		{nest(13, api.Expr{}), api.ErrLimit},
		{nest(1<<16, api.Expr{}), api.ErrLimit},
	} {
		if e := Shape(row.x); e != row.e {
			t.Errorf("P10.1: Shape of size %d and depth %d returns %d, not %d", Size(row.x), Depth(row.x), e, row.e)
		}
	}
}

// aggregateOf returns an aggregate of the field a over the table t.
func aggregateOf(op string, param int, w api.Window) api.Expr {
	argument := api.Expr{Kind: api.FieldE, Name: "a"}
	if op == "count" {
		argument = expr("true")
	}
	return api.Expr{Kind: api.AggE, Op: op, Table: "t", Param: param, Win: w, Args: []api.Expr{argument, expr("true")}}
}

// P10.1: each aggregate with Params at the ends of their ranges.
func TestParams(t *testing.T) {
	for _, op := range strings.Fields("count sum mean min max first last distinct quantile decay") {
		least, greatest := 0, 0
		switch op {
		case "quantile":
			least, greatest = 1, 1000
		case "decay":
			least, greatest = 1, 1073741824
		}
		for _, param := range []int{math.MinInt, -1, 0, 1, 2, 999, 1000, 1001, 1073741823, 1073741824, 1073741825, 1 << 40, math.MaxInt} {
			want := api.ErrForm
			if param >= least && param <= greatest {
				want = api.OK
			}
			if e := Shape(aggregateOf(op, param, api.Window{Kind: api.AllW})); e != want {
				t.Errorf("P10.1: Shape of %s with the Param %d returns %d, not %d", op, param, e, want)
			}
		}
	}
	for _, op := range []string{"", "Sum", "sums", "median", "+", "not", "all", "where"} {
		if e := Shape(aggregateOf(op, 0, api.Window{Kind: api.AllW})); e != api.ErrForm {
			t.Errorf("P10.1: Shape of an aggregate %q returns %d", op, e)
		}
	}
}

// P10.1: windows of each kind with sizes at the ends of their ranges.
func TestWindows(t *testing.T) {
	for kind := -1; kind <= 6; kind++ {
		for _, size := range []int{math.MinInt, -1, 0, 1, 2, 1099511627775, 1099511627776, 1099511627777, math.MaxInt} {
			want := api.ErrForm
			if kind == 1 && size == 0 || kind >= 2 && kind <= 4 && size >= 1 && size <= 1099511627776 {
				want = api.OK
			}
			for _, op := range []string{"count", "sum", "last"} {
				if e := Shape(aggregateOf(op, 0, api.Window{Kind: kind, Size: size})); e != want {
					t.Errorf("P10.1: Shape of %s with the window %d of size %d returns %d, not %d", op, kind, size, e, want)
				}
			}
		}
	}
}

// P10.1: the argument of count is the literal true; that of the others is not limited to it.
func TestCount(t *testing.T) {
	all := api.Window{Kind: api.AllW}
	field := api.Expr{Kind: api.FieldE, Name: "a"}
	for _, argument := range []api.Expr{
		expr("false"), expr("1"), expr("1.000000"), expr(`"true"`), expr("not false"), expr("null(1)"), expr("true and true"), field,
		{Kind: api.LitE, Val: api.Value{Kind: api.BoolV, N: 2}},
		{Kind: api.LitE, Val: api.Value{Kind: api.BoolV, N: 1}, Name: "a"},
		{Kind: api.LitE, Val: api.Value{Kind: api.BoolV, N: 1}, Unit: list("eur", 1)},
		{Kind: api.FieldE, Val: api.Value{Kind: api.BoolV, N: 1}},
		{Kind: api.FieldE, Name: "a", Val: api.Value{Kind: api.BoolV, N: 1}},
	} {
		if e := Shape(withArg(aggregateOf("count", 0, all), 0, argument)); e != api.ErrForm {
			t.Errorf("P10.1: Shape of count with the argument %+v returns %d", argument, e)
		}
		want := wantedShape(withArg(aggregateOf("last", 0, all), 0, argument))
		if e := Shape(withArg(aggregateOf("last", 0, all), 0, argument)); e != want {
			t.Errorf("P10.1: Shape of last with the argument %+v returns %d", argument, e)
		}
	}
	if e := Shape(withArg(aggregateOf("distinct", 0, all), 0, expr("true"))); e != api.OK {
		t.Error("P10.1: Shape of distinct with the argument true returns", e)
	}
}

// P10.1: what stands outside of an aggregate only, and what stands inside of it only, at each place in it.
func TestPlaces(t *testing.T) {
	field := api.Expr{Kind: api.FieldE, Name: "a"}
	outside := []api.Expr{expr("a"), expr(`a of (@k "x")`), expr("count(t, all)"), expr("sum(t, 1, all)")}
	around := []string{"true", "-true", "not true", "null(true)", "true + 1", "1 == true", "if true then 1 else 2", "if 1 then true else 2", "if 1 then 2 else true", "true default 1", "1 default true", "1 + (2 * (3 - -(4 / true)))"}
	// put returns the expression of the source with x in place of its literal true.
	put := func(src string, x api.Expr) api.Expr {
		l := variants(expr(src), func(y api.Expr) []api.Expr {
			if same(y, expr("true")) {
				return []api.Expr{x}
			}
			return nil
		})
		return l[0]
	}
	for _, src := range around {
		for arg := range 2 {
			inside := func(x api.Expr) api.Expr { return withArg(expr("last(t, true, all)"), arg, put(src, x)) }
			if e := Shape(inside(field)); e != api.OK {
				t.Error("P10.1: a field inside of an aggregate, in", src, e)
			}
			for _, x := range outside {
				if e := Shape(inside(x)); e != api.ErrForm {
					t.Error("P10.1:", written(x), "inside of an aggregate, in", src, e)
				}
			}
		}
		if e := Shape(put(src, field)); e != api.ErrForm {
			t.Error("P10.1: a field outside of an aggregate, in", src, e)
		}
		if e := Shape(put("1 + -(rank of (true))", put(src, field))); e != api.ErrForm {
			t.Error("P10.1: a field inside of a lookup, in", src, e)
		}
		for _, x := range outside {
			if e := Shape(put(src, x)); e != api.OK {
				t.Error("P10.1:", written(x), "outside of an aggregate, in", src, e)
			}
		}
	}
	// What follows an aggregate stands outside of it again.
	if e := Shape(put("sum(t, 1, all where 1 < 2) + true", expr("count(t, all) + a"))); e != api.OK {
		t.Error("P10.1: behind an aggregate", e)
	}
	if e := Shape(put("sum(t, 1, all where 1 < 2) + true", field)); e != api.ErrForm {
		t.Error("P10.1: a field behind an aggregate", e)
	}
}

// P10.1: an empty slice is as good as nil.
func TestEmptySlices(t *testing.T) {
	for _, src := range proper {
		for _, x := range variants(expr(src), func(x api.Expr) []api.Expr {
			y, z := x, x
			if len(x.Unit) == 0 {
				y.Unit = []api.Factor{}
			}
			if len(x.Args) == 0 {
				z.Args = []api.Expr{}
			}
			return []api.Expr{y, z}
		}) {
			if e := Shape(x); e != api.OK {
				t.Fatal("P10.1: empty slices in", src, e)
			}
		}
	}
}
