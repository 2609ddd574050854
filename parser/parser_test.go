package parser

import (
	"math/big"
	"math/rand/v2"
	"reflect"
	"regexp"
	"slices"
	"strings"
	"testing"

	"asof/api"
	"asof/lexer"
	"asof/units"
)

// itemRules is the part of the document's grammar that stands outside of expressions, and its aggregates as the chapter reads them. What stands inside of an aggregate has an apostrophe.
const itemRules = `
module  = { item }
item    = "table" NAME "of" NAME "{" [ field { "," field } ] "}" [ "keep" INT ] ";" | "feature" NAME "of" NAME ":" type "=" expr ";"
field   = NAME ":" type
type    = "bool" | "text" | "key" NAME | "int" [ unit ] | "dec" [ unit ]
unit    = "[" factor { "*" factor } "]"
factor  = NAME [ "^" [ "-" ] INT ]
primary = simple | "count" agg window rest | simpleagg agg expr' "," window rest | paramagg agg expr' "," INT "," window rest | NAME [ "of" "(" expr ")" ]
simpleagg = "sum" | "mean" | "min" | "max" | "first" | "last" | "distinct"
paramagg = "quantile" | "decay"
agg     = "(" NAME ","
window  = "all" | "sliding" INT | "tumbling" INT | "session" INT
rest    = [ "where" expr' ] ")"
primary' = simple' | NAME
`

// exprRules is the part of the grammar that holds outside and inside of an aggregate, where ~ is an apostrophe.
const exprRules = `
expr~    = "if" expr~ "then" expr~ "else" expr~ | default~
default~ = or~ { "default" or~ }
or~      = and~ { "or" and~ }
and~     = not~ { "and" not~ }
not~     = "not" not~ | compare~
compare~ = sum~ [ ( "==" | "!=" | "<" | "<=" ) sum~ ]
sum~     = product~ { ( "+" | "-" ) product~ }
product~ = unary~ { ( "*" | "/" ) unary~ }
unary~   = "-" unary~ | primary~
simple~  = INT [ unit ] | DEC [ unit ] | TEXT | "true" | "false" | "@" NAME TEXT | "null" "(" expr~ ")" | "(" expr~ ")"
`

// keywords are those of the lexer's chapter.
var keywords = strings.Fields("table feature of keep bool text key int dec if then else default or and not true false null count sum mean min max first last distinct quantile decay all sliding tumbling session where")

// aggregateWords are those of the grammar.
var aggregateWords = strings.Fields("count sum mean min max first last distinct quantile decay")

// applied contains the operators of two operands, from those that are applied last to those that are applied first.
var applied = []string{"default", "or", "and", "== != < <=", "+ -", "* /"}

// random returns a source of the same numbers in each run.
func random() *rand.Rand { return rand.New(rand.NewPCG(9, 27)) }

// pick returns one of the elements.
func pick[T any](r *rand.Rand, l []T) T { return l[r.IntN(len(l))] }

// node is a part of a rule: a word or sign in quotes, a kind of token, the name of a rule, or parts one after the other (&), one of which is chosen (|), that may be missing (?), or that are repeated (*).
type node struct {
	kind  byte
	text  string
	parts []*node
}

// rules are the rules of the grammar by their names.
type rules map[string]*node

// grammar returns the rules of the document.
func grammar() rules {
	g := rules{}
	text := itemRules + strings.ReplaceAll(exprRules, "~", "") + strings.ReplaceAll(exprRules, "~", "'")
	for _, line := range strings.Split(strings.TrimSpace(text), "\n") {
		if strings.TrimSpace(line) == "" {
			continue
		}
		words := regexp.MustCompile(`"[^"]*"|[A-Za-z']+|[={}()|]|\[|\]`).FindAllString(line, -1)
		right := words[2:]
		g[words[0]] = choice(&right)
	}
	return g
}

// choice reads the alternatives of a rule up to its end or to the closing bracket.
func choice(words *[]string) *node {
	alternatives := &node{kind: '|', parts: []*node{{kind: '&'}}}
	for len(*words) > 0 {
		word := (*words)[0]
		*words = (*words)[1:]
		sequence := alternatives.parts[len(alternatives.parts)-1]
		switch word[0] {
		case '}', ']', ')':
			return alternatives
		case '|':
			alternatives.parts = append(alternatives.parts, &node{kind: '&'})
		case '{':
			sequence.parts = append(sequence.parts, &node{kind: '*', parts: []*node{choice(words)}})
		case '[':
			sequence.parts = append(sequence.parts, &node{kind: '?', parts: []*node{choice(words)}})
		case '(':
			sequence.parts = append(sequence.parts, choice(words))
		case '"':
			sequence.parts = append(sequence.parts, &node{kind: '"', text: strings.Trim(word, `"`)})
		default:
			kind := byte('r')
			if strings.ToUpper(word) == word {
				kind = 'K'
			}
			sequence.parts = append(sequence.parts, &node{kind: kind, text: word})
		}
	}
	return alternatives
}

// stack is what the grammar still requires, the next part first.
type stack struct {
	top   *node
	below *stack
}

// after returns what the grammar may require after this token, where s is what it requires before it; the end fits where nothing is required.
func (g rules) after(s *stack, t api.Token) (l []*stack) {
	if s == nil {
		if t.Kind == api.TokEnd {
			return []*stack{nil}
		}
		return nil
	}
	n, below := s.top, s.below
	switch n.kind {
	case '"', 'K':
		if n.fits(t) {
			return []*stack{below}
		}
	case 'r':
		return g.after(&stack{g[n.text], below}, t)
	case '&':
		for _, part := range slices.Backward(n.parts) {
			below = &stack{part, below}
		}
		return g.after(below, t)
	case '|':
		for _, part := range n.parts {
			l = append(l, g.after(&stack{part, below}, t)...)
		}
	case '?':
		return append(g.after(below, t), g.after(&stack{n.parts[0], below}, t)...)
	case '*':
		return append(g.after(below, t), g.after(&stack{n.parts[0], s}, t)...)
	}
	return l
}

// fits says whether t is a token of this part.
func (n *node) fits(t api.Token) bool {
	if n.kind == '"' {
		return (t.Kind == api.TokWord || t.Kind == api.TokSign) && t.Text == n.text
	}
	switch n.text {
	case "NAME":
		return t.Kind == api.TokWord && !slices.Contains(keywords, t.Text)
	case "INT":
		return t.Kind == api.TokInt
	case "DEC":
		return t.Kind == api.TokDec
	}
	return t.Kind == api.TokText
}

// next returns what the grammar may require after this token.
func (g rules) next(l []*stack, t api.Token) (after []*stack) {
	for _, s := range l {
		after = append(after, g.after(s, t)...)
	}
	return after
}

// fault returns the index of the first wrong token among those of the rule, and otherwise n, the number of these. A rule ends with its last token if nothing can follow that, and otherwise with the TokEnd.
func (g rules) fault(rule string, l []api.Token) (n int, wrong bool) {
	state := []*stack{{g[rule], nil}}
	for i, t := range l {
		if state = g.next(state, t); len(state) == 0 {
			return i, true
		}
		if len(state) == 1 && state[0] == nil {
			return i + 1, false
		}
	}
	panic("no TokEnd")
}

// problem returns the first problem among the tokens of the rule: a wrong token or a further fault in front of it; and otherwise the number of these tokens.
func (g rules) problem(rule string, l []api.Token) (n int, bad api.Problem) {
	n, wrong := g.fault(rule, l)
	for i := range n {
		switch {
		case is(l[i], "]"):
			open := i
			for !is(l[open], "[") {
				open--
			}
			if _, e := wantedUnit(l[open : i+1]); e != api.OK {
				return 0, api.Problem{At: l[open].At, Code: e}
			}
		case l[i].Kind == api.TokText && i > 1 && is(l[i-2], "@"):
			if !keyShape.MatchString(l[i].Text) {
				return 0, api.Problem{At: l[i].At, Code: api.ErrForm}
			}
		}
	}
	if wrong {
		return 0, api.Problem{At: l[n].At, Code: api.ErrSyntax}
	}
	return n, api.Problem{}
}

// keyShape is that of a key.
var keyShape = regexp.MustCompile(`^[!#-\[\]-~]{1,32}$`)

// is says whether t is this word or sign.
func is(t api.Token, s string) bool {
	return (t.Kind == api.TokWord || t.Kind == api.TokSign) && t.Text == s
}

// wantedUnit returns the unit of these tokens, the brackets included.
func wantedUnit(l []api.Token) (u []api.Factor, e api.Errno) {
	sums := map[string]*big.Int{}
	for i, t := range l {
		if t.Kind != api.TokWord {
			continue
		}
		exponent := big.NewInt(1)
		for _, follow := range l[i+1:] {
			if follow.Kind == api.TokWord {
				break
			}
			if follow.Kind == api.TokInt {
				exponent = number(follow.Text)
				if limit := big.NewInt(1 << 40); exponent.Cmp(limit) > 0 {
					exponent = limit
				}
			}
		}
		if is(l[i+1], "^") && is(l[i+2], "-") {
			exponent.Neg(exponent)
		}
		if sums[t.Text] == nil {
			sums[t.Text] = new(big.Int)
		}
		sums[t.Text].Add(sums[t.Text], exponent)
	}
	for name, sum := range sums {
		if sum.CmpAbs(big.NewInt(8)) > 0 {
			return nil, api.ErrUnit
		}
		if sum.Sign() != 0 {
			u = append(u, api.Factor{Name: name, Exp: int(sum.Int64())})
		}
	}
	if len(u) > 4 {
		return nil, api.ErrLimit
	}
	slices.SortFunc(u, func(a, b api.Factor) int { return strings.Compare(a.Name, b.Name) })
	return u, api.OK
}

// number returns the integer with these digits.
func number(digits string) *big.Int {
	n, _ := new(big.Int).SetString(digits, 10)
	return n
}

// integer returns the integer with these digits.
func integer(digits string) int { return int(number(digits).Int64()) }

// lit returns the literal.
func lit(kind, n int, s string) api.Expr {
	return api.Expr{Kind: api.LitE, Val: api.Value{Kind: kind, N: n, S: s}}
}

// int1 returns the literal integer.
func int1(n int) api.Expr { return lit(api.IntV, n, "") }

// truth returns the literal true.
func truth() api.Expr { return lit(api.BoolV, 1, "") }

// keyOf returns the key of an entity of this kind.
func keyOf(kind, key string) api.Expr {
	x := lit(api.KeyV, 0, key)
	x.Name = kind
	return x
}

// field returns the field of this name.
func field(name string) api.Expr { return api.Expr{Kind: api.FieldE, Name: name} }

// feature returns the feature of this name.
func feature(name string) api.Expr { return api.Expr{Kind: api.FeatureE, Name: name} }

// lookup returns the feature of this name of another entity.
func lookup(name string, key api.Expr) api.Expr {
	return api.Expr{Kind: api.LookupE, Name: name, Args: []api.Expr{key}}
}

// one returns the operation on x.
func one(op string, x api.Expr) api.Expr {
	return api.Expr{Kind: api.UnaryE, Op: op, Args: []api.Expr{x}}
}

// two returns the operation on x and y.
func two(x api.Expr, op string, y api.Expr) api.Expr {
	if op == "default" {
		return api.Expr{Kind: api.DefaultE, Args: []api.Expr{x, y}}
	}
	return api.Expr{Kind: api.BinaryE, Op: op, Args: []api.Expr{x, y}}
}

// choose returns x, if condition is true, and otherwise y.
func choose(condition, x, y api.Expr) api.Expr {
	return api.Expr{Kind: api.IfE, Args: []api.Expr{condition, x, y}}
}

// agg returns an aggregate over the table t.
func agg(op string, argument api.Expr, param int, kind, size int, condition api.Expr) api.Expr {
	return api.Expr{Kind: api.AggE, Op: op, Table: "t", Param: param, Win: api.Window{Kind: kind, Size: size}, Args: []api.Expr{argument, condition}}
}

// tree returns the expression of tokens that the grammar permits: it splits them where the operator stands that is applied last.
func tree(l []api.Token, inside bool) api.Expr {
	if is(l[0], "if") {
		then := branch(l, 1, "then")
		other := branch(l, then+1, "else")
		return choose(tree(l[1:then], inside), tree(l[then+1:other], inside), tree(l[other+1:], inside))
	}
	for _, ops := range applied {
		if ops == "== != < <=" && is(l[0], "not") {
			return one("not", tree(l[1:], inside))
		}
		if at := lastOperator(l, strings.Fields(ops)); at > 0 {
			return two(tree(l[:at], inside), l[at].Text, tree(l[at+1:], inside))
		}
	}
	last := len(l) - 1
	switch {
	case is(l[0], "-"):
		return one("-", tree(l[1:], inside))
	case is(l[0], "null"):
		return one("null", tree(l[2:last], inside))
	case is(l[0], "("):
		return tree(l[1:last], inside)
	case inside && l[0].Kind == api.TokWord && last == 0 && !slices.Contains(keywords, l[0].Text):
		return field(l[0].Text)
	case last > 0 && is(l[1], "of"):
		return lookup(l[0].Text, tree(l[3:last], inside))
	case l[0].Kind == api.TokWord && slices.Contains(aggregateWords, l[0].Text):
		return aggregateTree(l)
	}
	return literalTree(l)
}

// branch returns the index of the word that belongs to the "if" in front of the tokens from this one on.
func branch(l []api.Token, from int, word string) int {
	open, depth := 0, 0
	for i, t := range l[from:] {
		switch {
		case is(t, "("):
			depth++
		case is(t, ")"):
			depth--
		case depth > 0:
		case open == 0 && is(t, word):
			return from + i
		case is(t, "if"):
			open++
		case is(t, "else"):
			open--
		}
	}
	panic("no " + word)
}

// lastOperator returns the index of the last one of these operators outside of parentheses and units that has an operand in front of it, and otherwise -1.
func lastOperator(l []api.Token, ops []string) int {
	depth := 0
	for i, t := range slices.Backward(l) {
		switch {
		case is(t, ")"), is(t, "]"):
			depth++
		case is(t, "("), is(t, "["):
			depth--
		case depth == 0 && i > 0 && (t.Kind == api.TokWord || t.Kind == api.TokSign) && slices.Contains(ops, t.Text):
			before := l[i-1]
			if before.Kind != api.TokSign || is(before, ")") || is(before, "]") {
				return i
			}
		}
	}
	return -1
}

// literalTree returns the literal, or the feature, of these tokens.
func literalTree(l []api.Token) api.Expr {
	x := lit(api.TextV, 0, l[0].Text)
	switch {
	case is(l[0], "true"):
		return truth()
	case is(l[0], "false"):
		return lit(api.BoolV, 0, "")
	case is(l[0], "@"):
		return keyOf(l[1].Text, l[2].Text)
	case l[0].Kind == api.TokWord:
		return feature(l[0].Text)
	case l[0].Kind == api.TokInt:
		x = int1(integer(l[0].Text))
	case l[0].Kind == api.TokDec:
		whole, part, _ := strings.Cut(l[0].Text, ".")
		x = lit(api.DecV, integer(whole+part+strings.Repeat("0", 6-len(part))), "")
	}
	if len(l) > 1 {
		x.Unit, _ = wantedUnit(l[1:])
	}
	return x
}

// aggregateTree returns the aggregate of these tokens.
func aggregateTree(l []api.Token) api.Expr {
	var parts [][]api.Token // between the commas
	from := 2
	for i, t := range l {
		if is(t, ",") || i == len(l)-1 {
			parts = append(parts, l[from:i])
			from = i + 1
		}
	}
	x := agg(l[0].Text, truth(), 0, 0, 0, truth())
	x.Table = parts[0][0].Text
	if len(parts) > 2 {
		x.Args[0] = tree(parts[1], true)
	}
	if len(parts) > 3 {
		x.Param = integer(parts[2][0].Text)
	}
	window := parts[len(parts)-1]
	x.Win.Kind = map[string]int{"all": api.AllW, "sliding": api.SlidingW, "tumbling": api.TumblingW, "session": api.SessionW}[window[0].Text]
	if x.Win.Kind != api.AllW {
		x.Win.Size = integer(window[1].Text)
	}
	if at := slices.IndexFunc(window, func(t api.Token) bool { return is(t, "where") }); at > 0 {
		x.Args[1] = tree(window[at+1:], true)
	}
	return x
}

// typeTree returns the type of these tokens.
func typeTree(l []api.Token) (t api.Type) {
	t.Kind = map[string]int{"bool": api.BoolV, "text": api.TextV, "key": api.KeyV, "int": api.IntV, "dec": api.DecV}[l[0].Text]
	switch {
	case t.Kind == api.KeyV:
		t.Of = l[1].Text
	case len(l) > 1:
		t.Unit, _ = wantedUnit(l[1:])
	}
	return t
}

// itemTree adds the item of these tokens to m.
func itemTree(m *api.Module, l []api.Token) {
	index := func(s string) int { return slices.IndexFunc(l, func(t api.Token) bool { return is(t, s) }) }
	if is(l[0], "feature") {
		equal := index("=")
		m.Features = append(m.Features, api.Feature{Name: l[1].Text, Entity: l[3].Text, Type: typeTree(l[5:equal]), Body: tree(l[equal+1:len(l)-1], false)})
		return
	}
	table := api.Table{Name: l[1].Text, Entity: l[3].Text}
	from := 5
	for i := from; i < len(l); i++ {
		if (is(l[i], ",") || is(l[i], "}")) && i > from {
			table.Fields = append(table.Fields, api.Field{Name: l[from].Text, Type: typeTree(l[from+2 : i])})
			from = i + 1
		}
	}
	if at := index("keep"); at > 0 {
		table.Keep = integer(l[at+1].Text)
	}
	m.Tables = append(m.Tables, table)
}

// wantedModule returns what Module should return.
func (g rules) wantedModule(src string) (m api.Module, bad []api.Problem, e api.Errno) {
	l, bad, e := lexer.Tokens([]byte(src))
	if e != api.OK {
		return m, nil, e
	}
	for l[0].Kind != api.TokEnd {
		n, problem := g.problem("item", l)
		if problem.Code == api.OK {
			itemTree(&m, l[:n])
			l = l[n:]
			continue
		}
		bad = append(bad, problem)
		for l[0].Kind != api.TokEnd && (l[0].At < problem.At || !is(l[0], ";")) {
			l = l[1:]
		}
		if is(l[0], ";") {
			l = l[1:]
		}
	}
	slices.SortFunc(bad, func(a, b api.Problem) int { return a.At - b.At })
	return m, bad[:min(len(bad), 32)], api.OK
}

// wantedWhole returns the tokens that all of src consists of, or the problem that Expr or Type should report.
func (g rules) wantedWhole(rule, src string) (l []api.Token, at int, e api.Errno) {
	l, bad, e := lexer.Tokens([]byte(src))
	if e != api.OK {
		return nil, 0, e
	}
	if len(bad) > 0 {
		return nil, bad[0].At, bad[0].Code
	}
	n, problem := g.problem(rule, l)
	switch {
	case problem.Code != api.OK:
		return nil, problem.At, problem.Code
	case n < len(l)-1:
		return nil, l[n].At, api.ErrSyntax
	}
	return l[:len(l)-1], 0, api.OK
}

// wantedExpr returns what Expr should return.
func (g rules) wantedExpr(src string) (x api.Expr, at int, e api.Errno) {
	l, at, e := g.wantedWhole("expr", src)
	if e == api.OK {
		x = tree(l, false)
	}
	return x, at, e
}

// wantedType returns what Type should return.
func (g rules) wantedType(src string) (t api.Type, at int, e api.Errno) {
	l, at, e := g.wantedWhole("type", src)
	if e == api.OK {
		t = typeTree(l)
	}
	return t, at, e
}

// same says whether a and b are equal, where a nil and an empty slice are.
func same[T any](a, b T) bool { return equal(reflect.ValueOf(a), reflect.ValueOf(b)) }

// equal says whether two values of one type, which consists of structs, slices, numbers and strings, are equal.
func equal(a, b reflect.Value) bool {
	switch a.Kind() {
	case reflect.Slice:
		for i := range min(a.Len(), b.Len()) {
			if !equal(a.Index(i), b.Index(i)) {
				return false
			}
		}
		return a.Len() == b.Len()
	case reflect.Struct:
		for i := range a.NumField() {
			if !equal(a.Field(i), b.Field(i)) {
				return false
			}
		}
		return true
	}
	return a.Equal(b)
}

// results are those of the three functions; each of them is one value.
type results struct {
	m    api.Module
	bad  []api.Problem
	x    api.Expr
	t    api.Type
	at   int
	code api.Errno
}

// ofModule, ofExpr and ofType return the results of the functions.
func ofModule(m api.Module, bad []api.Problem, e api.Errno) results {
	return results{m: m, bad: bad, code: e}
}
func ofExpr(x api.Expr, at int, e api.Errno) results { return results{x: x, at: at, code: e} }
func ofType(t api.Type, at int, e api.Errno) results { return results{t: t, at: at, code: e} }

// check compares the results of this function for src with those that it should return.
func check(t *testing.T, promise, function, src string, got, want results) results {
	t.Helper()
	if !same(got, want) {
		t.Fatalf("%s: %s of %q returns %+v, not %+v", promise, function, src, got, want)
	}
	return got
}

// checkModule compares Module with what it should return.
func checkModule(t *testing.T, g rules, promise, src string) results {
	t.Helper()
	return check(t, promise, "Module", src, ofModule(Module([]byte(src))), ofModule(g.wantedModule(src)))
}

// checkExpr compares Expr with what it should return.
func checkExpr(t *testing.T, g rules, promise, src string) results {
	t.Helper()
	return check(t, promise, "Expr", src, ofExpr(Expr([]byte(src))), ofExpr(g.wantedExpr(src)))
}

// checkType compares Type with what it should return.
func checkType(t *testing.T, g rules, promise, src string) results {
	t.Helper()
	return check(t, promise, "Type", src, ofType(Type([]byte(src))), ofType(g.wantedType(src)))
}

// isExpr checks that Expr of src is this expression, by itself and by the grammar.
func isExpr(t *testing.T, g rules, promise, src string, want api.Expr) {
	t.Helper()
	if got := checkExpr(t, g, promise, src); !same(got, results{x: want}) {
		t.Errorf("%s: Expr of %q returns %+v, not %+v", promise, src, got, want)
	}
}

// isWrong checks that Expr of src reports this problem.
func isWrong(t *testing.T, g rules, promise, src string, at int, e api.Errno) {
	t.Helper()
	if got := checkExpr(t, g, promise, src); !same(got, results{at: at, code: e}) {
		t.Errorf("%s: Expr of %q returns %+v, not %d, %d", promise, src, got, at, e)
	}
}

// words are sources of tokens: all keywords and signs, and some of the other kinds.
var words = slices.Concat(keywords, strings.Fields("== != <= { } ( ) [ ] , : ; = < + - * / ^ @ a t 0 7 1.5"), []string{`"k"`, `"a b"`})

// few are sources of tokens of which no two are permitted at the same places.
var few = strings.Fields(`a 1 1.5 "k" true if then else default or and not == + - * ( ) [ ] ^ , @ null of count sum quantile all session where keep table ;`)

// samples are sources of tokens of the kinds of the grammar.
var samples = map[string][]string{
	"NAME": {"a", "b", "t", "u7", "counts", "x_y", "abcdefghijklmnopqrstuvwx"},
	"INT":  {"0", "1", "2", "3", "8", "007", "500", "1099511627776", "1099511627777", "1152921504606846976"},
	"DEC":  {"0.0", "1.5", "0.000001", "12.25", "1152921504606.846976"},
	"TEXT": {`"k"`, `"u-7"`, `"~!"`, `"a b"`, `""`, `"table"`, `";"`, `"` + strings.Repeat("k", 32) + `"`, `"` + strings.Repeat("k", 33) + `"`},
}

// sentence returns sources of tokens that the grammar permits for this rule; at most this many of its choices are made at random.
func (g rules) sentence(r *rand.Rand, rule string, choices int) []string {
	return g.part(r, g[rule], &choices)
}

// part returns sources of tokens that the grammar permits for this part.
func (g rules) part(r *rand.Rand, n *node, choices *int) (l []string) {
	switch n.kind {
	case '"':
		return []string{n.text}
	case 'K':
		return []string{pick(r, samples[n.text])}
	case 'r':
		return g.part(r, g[n.text], choices)
	case '&':
		for _, part := range n.parts {
			l = append(l, g.part(r, part, choices)...)
		}
	case '|':
		part := n.parts[len(n.parts)-1]
		if *choices > 0 && r.IntN(3) > 0 {
			*choices--
			part = pick(r, n.parts)
		}
		return g.part(r, part, choices)
	case '?', '*':
		for *choices > 0 && r.IntN(4) == 0 {
			*choices--
			l = append(l, g.part(r, n.parts[0], choices)...)
			if n.kind == '?' {
				break
			}
		}
	}
	return l
}

// changed returns a copy of the words in which one of them is missing, twice there, replaced, or behind another one.
func changed(r *rand.Rand, l []string) []string {
	l = slices.Clone(l)
	at := r.IntN(len(l))
	switch r.IntN(4) {
	case 0:
		return slices.Delete(l, at, at+1)
	case 1:
		return slices.Insert(l, at, l[at])
	case 2:
		l[at] = pick(r, words)
		return l
	}
	return slices.Insert(l, at, pick(r, words))
}

// written returns the words with blanks, comments and sometimes problems of the lexer in between.
func written(r *rand.Rand, l []string, faults bool) string {
	var b strings.Builder
	for _, word := range l {
		b.WriteString(word)
		b.WriteString(pick(r, []string{" ", " ", " ", "\t", "\r\n", "# [ ;\n", "  "}))
		if faults && r.IntN(12) == 0 {
			b.WriteString(pick(r, []string{"$ ", "! ", "1.1234567 ", "1152921504606846977 ", strings.Repeat("a", 25) + " ", "\"\t\" ", "\"k\n"}))
		}
	}
	return b.String()
}

func TestExamples(t *testing.T) {
	g := grammar()
	isExpr(t, g, "P9.2", "1 + 2 * a", two(int1(1), "+", two(int1(2), "*", feature("a"))))
	isExpr(t, g, "P9.2", "a default b default 1.5", two(two(feature("a"), "default", feature("b")), "default", lit(api.DecV, 1500000, "")))
	isExpr(t, g, "P9.2", "count(t, all where x)", agg("count", truth(), 0, api.AllW, 0, field("x")))
	isWrong(t, g, "P9.2", "a < b < c", 6, api.ErrSyntax)
	isWrong(t, g, "P9.2", "count(t, all", 12, api.ErrSyntax)
	isWrong(t, g, "P9.2", "1 [m^9]", 2, api.ErrUnit)
	speed := []api.Factor{{Name: "eur", Exp: 1}, {Name: "h", Exp: -1}}
	if got := checkType(t, g, "P9.2", "dec [eur * h^-1]"); !same(got, results{t: api.Type{Kind: api.DecV, Unit: speed}}) {
		t.Errorf("P9.2: the type is %+v", got)
	}
	src := "table t of u { n: int }; table x of; feature f of u: int = 1;"
	want := results{
		m: api.Module{
			Tables:   []api.Table{{Name: "t", Entity: "u", Fields: []api.Field{{Name: "n", Type: api.Type{Kind: api.IntV}}}}},
			Features: []api.Feature{{Name: "f", Entity: "u", Type: api.Type{Kind: api.IntV}, Body: int1(1)}},
		},
		bad: []api.Problem{{At: 35, Code: api.ErrSyntax}},
	}
	if got := checkModule(t, g, "P9.1", src); !same(got, want) {
		t.Errorf("P9.1: the module is %+v", got)
	}
}

func TestPrimaries(t *testing.T) {
	g := grammar()
	a, meter := feature("a"), []api.Factor{{Name: "m", Exp: 1}}
	withUnit := func(x api.Expr) api.Expr {
		x.Unit = meter
		return x
	}
	for src, want := range map[string]api.Expr{
		"0": int1(0), "007": int1(7), "1152921504606846976": int1(1 << 60), strings.Repeat("0", 90) + "9": int1(9),
		"7 [m]": withUnit(int1(7)), "7[m]": withUnit(int1(7)), "2.5 [ m ]": withUnit(lit(api.DecV, 2500000, "")),
		"0.000001": lit(api.DecV, 1, ""), "1152921504606.846976": lit(api.DecV, 1<<60, ""), "00.50": lit(api.DecV, 500000, ""),
		`""`: lit(api.TextV, 0, ""), `"a b"`: lit(api.TextV, 0, "a b"), `"true"`: lit(api.TextV, 0, "true"), `"#;"`: lit(api.TextV, 0, "#;"),
		"true": truth(), "false": lit(api.BoolV, 0, ""),
		`@user "u7"`: keyOf("user", "u7"), `@ u "!~"`: keyOf("u", "!~"),
		`@u "` + strings.Repeat("k", 32) + `"`: keyOf("u", strings.Repeat("k", 32)),
		"a":                                    a, "counts": feature("counts"), "abcdefghijklmnopqrstuvwx": feature("abcdefghijklmnopqrstuvwx"),
		"-a": one("-", a), "- - a": one("-", one("-", a)), "-7": one("-", int1(7)), "not a": one("not", a), "not not a": one("not", one("not", a)),
		"null(a)": one("null", a), "null (null(a))": one("null", one("null", a)), "null(if a then a else a)": one("null", choose(a, a, a)),
		"(a)": a, "((a))": a, "a of (a)": lookup("a", a), "a of(b of(@u \"k\"))": lookup("a", lookup("b", keyOf("u", "k"))),
		"a of (a default a)": lookup("a", two(a, "default", a)), "- a of (a)": one("-", lookup("a", a)),
		"if a then 1 else 2":                            choose(a, int1(1), int1(2)),
		"if a then 1 else 2 default 3":                  choose(a, int1(1), two(int1(2), "default", int1(3))),
		"(if a then 1 else 2) default 3":                two(choose(a, int1(1), int1(2)), "default", int1(3)),
		"if a then if a then 1 else 2 else 3":           choose(a, choose(a, int1(1), int1(2)), int1(3)),
		"if a then 1 else if a then 2 else 3":           choose(a, int1(1), choose(a, int1(2), int1(3))),
		"if if a then a else a then 1 else 2":           choose(choose(a, a, a), int1(1), int1(2)),
		"1 + (if a then 1 else 2) + 3":                  two(two(int1(1), "+", choose(a, int1(1), int1(2))), "+", int1(3)),
		"if a or a then a and a else not a # a comment": choose(two(a, "or", a), two(a, "and", a), one("not", a)),
	} {
		isExpr(t, g, "P9.2", src, want)
	}
}

func TestAggregates(t *testing.T) {
	g := grammar()
	a, one7 := field("a"), int1(7)
	windows := []struct {
		src        string
		kind, size int
	}{
		{"all", api.AllW, 0}, {"sliding 5", api.SlidingW, 5}, {"tumbling 10", api.TumblingW, 10}, {"session 3", api.SessionW, 3},
		{"sliding 0", api.SlidingW, 0}, {"tumbling 0", api.TumblingW, 0}, {"session 0", api.SessionW, 0},
		{"sliding 1152921504606846976", api.SlidingW, 1 << 60}, {"tumbling 1152921504606846976", api.TumblingW, 1 << 60}, {"session 1152921504606846976", api.SessionW, 1 << 60},
	}
	for _, w := range windows {
		for _, op := range aggregateWords {
			for _, where := range []string{"", " where a", " where not a default 7", " where if a then a else a"} {
				condition := map[string]api.Expr{"": truth(), " where a": a, " where not a default 7": two(one("not", a), "default", one7), " where if a then a else a": choose(a, a, a)}[where]
				argument, arguments, param := two(a, "*", one7), "a * 7, ", 0
				switch op {
				case "count":
					argument, arguments = truth(), ""
				case "quantile", "decay":
					arguments, param = "a * 7, 500, ", 500
				}
				isExpr(t, g, "P9.2", op+"(t, "+arguments+w.src+where+")", agg(op, argument, param, w.kind, w.size, condition))
			}
		}
	}
	for src, want := range map[string]api.Expr{
		"sum(t, (a), all) + a":                     two(agg("sum", a, 0, api.AllW, 0, truth()), "+", feature("a")),
		"a + sum(t, a, all)":                       two(feature("a"), "+", agg("sum", a, 0, api.AllW, 0, truth())),
		"sum(t, if a then 7 else 7,all)":           agg("sum", choose(a, one7, one7), 0, api.AllW, 0, truth()),
		"sum(t, null(a), all where a == @u \"k\")": agg("sum", one("null", a), 0, api.AllW, 0, two(a, "==", keyOf("u", "k"))),
		"a of (first(t, a, all))":                  lookup("a", agg("first", a, 0, api.AllW, 0, truth())),
		"quantile(t, 7, 0, all)":                   agg("quantile", one7, 0, api.AllW, 0, truth()),
		"decay(t, -a, 1152921504606846976, all)":   agg("decay", one("-", a), 1<<60, api.AllW, 0, truth()),
		"count(t, all where (a)) default a":        two(agg("count", truth(), 0, api.AllW, 0, a), "default", feature("a")),
	} {
		isExpr(t, g, "P9.2", src, want)
	}
	for src, at := range map[string]int{
		"count(t, a, all)": 9, "count(t, 7, all)": 9, "count(t)": 7, "count(t,)": 8, "count(, all)": 6, "count t": 6, "count": 5, "count(t, all) where a": 14,
		"sum(t, all)": 7, "sum(t, a)": 8, "sum(t, a, 7, all)": 10, "sum(t, a, all, all)": 13, "sum(a of (t), a, all)": 6, "sum(sum, a, all)": 4,
		"quantile(t, a, all)": 15, "quantile(t, a, 500)": 18, "quantile(t, a, 1.5, all)": 15, "quantile(t, a, -1, all)": 15, "quantile(t, a, a, all)": 15, "quantile(t, a, 500 [m], all)": 19, "decay(t, 500, all)": 14,
		"sum(t, b of (a), all)": 9, "sum(t, a, all where b of (a))": 22, "sum(t, sum(t, a, all), all)": 7, "count(t, all where count(t, all))": 19,
		"sum(t, (1 + max(t, a, all)), all)": 12, "sum(t, null(b of (a)), all)": 14, "sum(t, if mean then a else a, all)": 10,
		"count(t, all 5)": 13, "count(t, sliding)": 16, "count(t, sliding a)": 17, "count(t, sliding 1.5)": 17, "count(t, session -1)": 17, "count(t, tumbling 5 [m])": 20, "count(t, where a)": 9, "count(t, all where)": 18, "count(t, always)": 9,
		"count(t, all where a, all)": 20, "count(t, all where a where a)": 21, "median(t, a, all)": 6, "all": 0, "where": 0,
	} {
		isWrong(t, g, "P9.2", src, at, api.ErrSyntax)
	}
	isWrong(t, g, "P9.2", "count(t, sliding 1152921504606846977)", 17, api.ErrLimit)
}

func TestUnits(t *testing.T) {
	g := grammar()
	for src, want := range map[string]string{
		"[m]": "m", "[m^1]": "m", "[m^01]": "m", "[m^8]": "m^8", "[m^-8]": "m^-8", "[m ^ - 1]": "m^-1", "[m*m]": "m^2", "[m*m*m]": "m^3", "[s * m^2 * s^-3]": "m^2*s^-2",
		"[m^0]": "", "[m*m^-1]": "", "[m^0*s]": "s", "[m^-0]": "", "[a*b*c*d]": "a*b*c*d", "[d*c*b*a]": "a*b*c*d", "[a*b*c*d*e^0]": "a*b*c*d", "[a*b*c*d*e*e^-1]": "a*b*c*d",
		"[m^9*m^-1]": "m^8", "[m^-9*m]": "m^-8", "[m^1099511627776*m^-1099511627776]": "", "[m^1099511627777*m^-1099511627776]": "", "[m^1152921504606846976*m^-1099511627776*s]": "s",
		"[m^1099511627776*m^-1152921504606846976*m^7]": "m^7", "[m^1099511627784*m^-1099511627776]": "",
		"[" + strings.Repeat("m^1152921504606846976*", 300) + strings.Repeat("m^-1152921504606846976*", 300) + "m]": "m",
	} {
		unit, e := units.Parse(want)
		if e != api.OK {
			t.Fatalf("%q is no unit", want)
		}
		for _, literal := range []api.Expr{int1(7), lit(api.DecV, 7000000, "")} {
			number := map[int]string{api.IntV: "7", api.DecV: "7.0"}[literal.Val.Kind]
			literal.Unit = unit
			isExpr(t, g, "P9.7", number+src, literal)
			isExpr(t, g, "P9.7", "sum(t, "+number+" "+src+", all)", agg("sum", literal, 0, api.AllW, 0, truth()))
		}
		for word, kind := range map[string]int{"int": api.IntV, "dec": api.DecV} {
			if got := checkType(t, g, "P9.7", word+" "+src); !same(got, results{t: api.Type{Kind: kind, Unit: unit}}) {
				t.Errorf("P9.7: the unit of %q is %+v", src, got)
			}
		}
	}
	for src, want := range map[string]api.Errno{
		"7 [m^9]": api.ErrUnit, "7 [m^-9]": api.ErrUnit, "7 [m^8*m]": api.ErrUnit, "7 [m^1152921504606846976]": api.ErrUnit, "7 [m^-1152921504606846976]": api.ErrUnit,
		"7 [m^1099511627777*m^-1099511627767]": api.ErrUnit, "7 [a*b*c*d*e]": api.ErrLimit, "7 [a*b*c*d*e*f^9]": api.ErrUnit, "7 [f^9*a*b*c*d*e]": api.ErrUnit, "7 [a^9] [": api.ErrUnit, "7 [a^9] )": api.ErrUnit, "7 [a^9] + @u \"\"": api.ErrUnit,
		"7 [" + strings.Repeat("m^1152921504606846976*", 600) + "m]": api.ErrUnit,
		"7 [" + strings.Repeat("m^1152921504606846976*", 16) + "m]":  api.ErrUnit,
	} {
		isWrong(t, g, "P9.2", src, 2, want)
	}
	for src, at := range map[string]int{
		"7 []": 3, "7 [m": 4, "7 [m^9": 6, "7 [m^9 a]": 7, "7 [m^]": 5, "7 [m^-]": 6, "7 [m^--1]": 6, "7 [m^+1]": 5, "7 [m^1.5]": 5, "7 [m^a]": 5, "7 [*m]": 3, "7 [m*]": 5, "7 [m m]": 5, "7 [m/s]": 4, "7 [7]": 3, "7 [key]": 3, "7 [m*sum]": 5, "7 [m^9*]": 7,
		"7 [m][s]": 5, "a [m]": 2, "(7) [m]": 4, "\"k\" [m]": 4, "true [m]": 5, "[m]": 0, "7 [m^1^1]": 6, "7 [-m]": 3, "7 m]": 2, "7 [(m)]": 3,
	} {
		isWrong(t, g, "P9.2", src, at, api.ErrSyntax)
	}
}

func TestKeys(t *testing.T) {
	g := grammar()
	for c := range 256 {
		for _, key := range []string{string([]byte{byte(c)}), "u" + string([]byte{byte(c)}), string([]byte{byte(c)}) + "7"} {
			src := `@user "` + key + `"`
			switch {
			case c < 32 || c > 126 || c == '"' || c == '\\':
				if got := checkExpr(t, g, "P9.2", src); got.code == api.OK {
					t.Errorf("P9.2: %q is parsed", src)
				}
			case c == 32:
				isWrong(t, g, "P9.2", src, 6, api.ErrForm)
			default:
				isExpr(t, g, "P9.2", src, keyOf("user", key))
			}
		}
	}
	for src, at := range map[string]int{
		`@u ""`: 3, `@u "a b"`: 3, `@u "` + strings.Repeat("k", 33) + `"`: 3, `@u "` + strings.Repeat("k", 64) + `"`: 3, `a == @u " "`: 8, `sum(t, @u "", all)`: 10, `@u "" )`: 3, `@u "" 7 [m^9]`: 3, `@u "" == @u " "`: 3,
	} {
		isWrong(t, g, "P9.2", src, at, api.ErrForm)
	}
	for src, at := range map[string]int{
		`@`: 1, `@u`: 2, `@ "k"`: 2, `@u k`: 3, `@u 7`: 3, `@key "k"`: 1, `@"u" "k"`: 1, `@u "k" "k"`: 7, `u "k"`: 2, `@@u "k"`: 1, `) @u ""`: 0, `a a @u ""`: 2,
	} {
		isWrong(t, g, "P9.2", src, at, api.ErrSyntax)
	}
}

func TestTypes(t *testing.T) {
	g := grammar()
	for src, want := range map[string]api.Type{
		"bool": {Kind: api.BoolV}, " text # no unit": {Kind: api.TextV}, "int": {Kind: api.IntV}, "dec": {Kind: api.DecV}, "key user": {Kind: api.KeyV, Of: "user"},
	} {
		if got := checkType(t, g, "P9.2", src); !same(got, results{t: want}) {
			t.Errorf("P9.2: the type %q is %+v", src, got)
		}
	}
	for src, want := range map[string]api.Problem{
		"": {At: 0, Code: api.ErrSyntax}, " \t\n": {At: 3, Code: api.ErrSyntax}, "# int": {At: 5, Code: api.ErrSyntax}, "a": {At: 0, Code: api.ErrSyntax}, "\"int\"": {At: 0, Code: api.ErrSyntax},
		"bool [m]": {At: 5, Code: api.ErrSyntax}, "text [m]": {At: 5, Code: api.ErrSyntax}, "key u [m]": {At: 6, Code: api.ErrSyntax}, "key": {At: 3, Code: api.ErrSyntax}, "key key": {At: 4, Code: api.ErrSyntax}, "key \"u\"": {At: 4, Code: api.ErrSyntax},
		"int int": {At: 4, Code: api.ErrSyntax}, "int [m] ;": {At: 8, Code: api.ErrSyntax}, "int [m^9] ;": {At: 4, Code: api.ErrUnit}, "int ; [m^9]": {At: 4, Code: api.ErrSyntax}, "int [a*b*c*d*e]": {At: 4, Code: api.ErrLimit}, "int [": {At: 5, Code: api.ErrSyntax},
		"int $": {At: 4, Code: api.ErrToken}, "7 $": {At: 2, Code: api.ErrToken}, "int [m^9] 1.1234567 $": {At: 10, Code: api.ErrForm},
	} {
		if got := checkType(t, g, "P9.2", src); !same(got, results{at: want.At, code: want.Code}) {
			t.Errorf("P9.2: the type %q is %+v, not %+v", src, got, want)
		}
	}
	for _, word := range words {
		for _, follow := range append(slices.Clone(words), "") {
			checkType(t, g, "P9.2", word+" "+follow)
			checkType(t, g, "P9.2", "int [ m "+word+" "+follow)
		}
	}
}

func TestItems(t *testing.T) {
	g := grammar()
	meters := []api.Factor{{Name: "m", Exp: 2}}
	for src, want := range map[string]api.Module{
		"": {}, " \t\r\n": {}, "# table": {},
		"table t of u { };":                                   {Tables: []api.Table{{Name: "t", Entity: "u"}}},
		"table t of u{}keep 7;":                               {Tables: []api.Table{{Name: "t", Entity: "u", Keep: 7}}},
		"table t of u { a: int } keep 0;":                     {Tables: []api.Table{{Name: "t", Entity: "u", Fields: []api.Field{{Name: "a", Type: api.Type{Kind: api.IntV}}}}}},
		"table t of t { t: key t } keep 1152921504606846976;": {Tables: []api.Table{{Name: "t", Entity: "t", Fields: []api.Field{{Name: "t", Type: api.Type{Kind: api.KeyV, Of: "t"}}}, Keep: 1 << 60}}},
		"table t of u { a: bool, b: text, c: key k, d: int, e: dec, f: int [m*m], g: dec [m^2], a: bool, a: bool };": {Tables: []api.Table{{Name: "t", Entity: "u", Fields: []api.Field{
			{Name: "a", Type: api.Type{Kind: api.BoolV}}, {Name: "b", Type: api.Type{Kind: api.TextV}}, {Name: "c", Type: api.Type{Kind: api.KeyV, Of: "k"}}, {Name: "d", Type: api.Type{Kind: api.IntV}}, {Name: "e", Type: api.Type{Kind: api.DecV}},
			{Name: "f", Type: api.Type{Kind: api.IntV, Unit: meters}}, {Name: "g", Type: api.Type{Kind: api.DecV, Unit: meters}}, {Name: "a", Type: api.Type{Kind: api.BoolV}}, {Name: "a", Type: api.Type{Kind: api.BoolV}},
		}}}},
		"feature f of u: bool = true;":      {Features: []api.Feature{{Name: "f", Entity: "u", Type: api.Type{Kind: api.BoolV}, Body: truth()}}},
		"feature f of f:text=f;":            {Features: []api.Feature{{Name: "f", Entity: "f", Type: api.Type{Kind: api.TextV}, Body: feature("f")}}},
		"feature f of u: key k = @k \"x\";": {Features: []api.Feature{{Name: "f", Entity: "u", Type: api.Type{Kind: api.KeyV, Of: "k"}, Body: keyOf("k", "x")}}},
		"feature f of u: int [m^2] = 7; table t of u {}; feature f of u: dec [m*m] = a of (b);": {
			Tables:   []api.Table{{Name: "t", Entity: "u"}},
			Features: []api.Feature{{Name: "f", Entity: "u", Type: api.Type{Kind: api.IntV, Unit: meters}, Body: int1(7)}, {Name: "f", Entity: "u", Type: api.Type{Kind: api.DecV, Unit: meters}, Body: lookup("a", feature("b"))}},
		},
	} {
		if got := checkModule(t, g, "P9.1", src); !same(got, results{m: want}) {
			t.Errorf("P9.1: the module %q is %+v, not %+v", src, got, want)
		}
	}
	for src, at := range map[string]int{
		";": 0, "}": 0, "a": 0, "\"table\"": 0, "\"feature\" f of u: int = 1;": 0, "7;": 0, "of;": 0, "int": 0, "tables t of u {};": 0, "table;": 5, "table": 5, "table table of u {};": 6, "table t;": 7, "table t of;": 10, "table t of of {};": 11,
		"table t of u;": 12, "table t of u {": 14, "table t of u };": 13, "table t of u { , };": 15, "table t of u { a };": 17, "table t of u { a: };": 18, "table t of u { a: u };": 18, "table t of u { a: int b: int };": 22, "table t of u { a: int, };": 23, "table t of u { a: int; };": 21, "table t of u { keep: int };": 15,
		"table t of u {}": 15, "table t of u {} 7;": 16, "table t of u {} keep;": 20, "table t of u {} keep -7;": 21, "table t of u {} keep 1.5;": 21, "table t of u {} keep 7 [m];": 23, "table t of u {} keep 7 keep 7;": 23, "table t of u {} , ;": 16,
		"feature;": 7, "feature f: int = 1;": 9, "feature f of u = 1;": 15, "feature f of u: = 1;": 16, "feature f of u: int;": 19, "feature f of u: int == 1;": 20, "feature f of u: int = ;": 22, "feature f of u: int = 1": 23, "feature f of u: int = 1 2;": 24, "feature sum of u: int = 1;": 8, "feature f of u: int = 1, 2;": 23, "feature f of u: int = a < b < c;": 28, "feature f of u: int = (1;": 24, "feature f of u { };": 15,
	} {
		if got := checkModule(t, g, "P9.1", src); len(got.bad) == 0 || got.bad[0] != (api.Problem{At: at, Code: api.ErrSyntax}) {
			t.Errorf("P9.1: the problems of %q are %+v, the first one not at %d", src, got.bad, at)
		}
	}
}

// rightItems and wrongItems are items, where a wrong one ends with its only ";".
var (
	rightItems = []string{"table t of u { };", "table t of u { a: int [m] } keep 7;", "feature f of u: int = 1 default 2;", "feature g of u: bool = count(t, all where \";\" == a) < 7;"}
	wrongItems = []string{";", "table;", "table x of;", "table t of u { a: int [m^9] };", "table t of u { a: int } keep;", "feature f of u: int = @u \"\";", "feature f of u: int = ( table t of u { } ;", "feature f of u: int = 7 [m^9] keep;", "of table t of u { } keep 7;", "\";\" table;", "feature f of u: int = sum(t, b of (a), all);"}
)

func TestRecovery(t *testing.T) {
	g := grammar()
	r := random()
	for range 3000 {
		var src strings.Builder
		var want api.Module
		problems := 0
		for range r.IntN(9) {
			if r.IntN(2) == 0 {
				item := pick(r, rightItems)
				alone := ofModule(Module([]byte(item)))
				want.Tables, want.Features = append(want.Tables, alone.m.Tables...), append(want.Features, alone.m.Features...)
				src.WriteString(item)
				continue
			}
			src.WriteString(pick(r, wrongItems))
			problems++
		}
		if r.IntN(3) == 0 {
			src.WriteString(strings.TrimSuffix(pick(r, wrongItems[1:]), ";"))
			problems++
		}
		got := checkModule(t, g, "P9.5", src.String())
		if !same(got.m, want) || len(got.bad) != problems {
			t.Fatalf("P9.5: of %q remain %+v with %d problems, not %+v with %d", src.String(), got.m, len(got.bad), want, problems)
		}
	}
	for src, want := range map[string][]api.Problem{
		"table a of ; ; table b of u { };":                          {{At: 11, Code: api.ErrSyntax}, {At: 13, Code: api.ErrSyntax}},
		"feature f of u: int = 7 [m^9] + ; table b of u { };":       {{At: 24, Code: api.ErrUnit}},
		"feature f of u: int = 7 [m^9]; table b of u { };":          {{At: 24, Code: api.ErrUnit}},
		"feature f of u: int = 7 [m^9 ; table b of u { };":          {{At: 29, Code: api.ErrSyntax}},
		"feature f of u: int = @u \"\"; table b of u { };":          {{At: 25, Code: api.ErrForm}},
		"table x table y of u { }; table b of u { };":               {{At: 8, Code: api.ErrSyntax}},
		"table x \";\" of u { }; table b of u { };":                 {{At: 8, Code: api.ErrSyntax}},
		"$ table x $; table b $ of u { }; $":                        {{At: 0, Code: api.ErrToken}, {At: 10, Code: api.ErrToken}, {At: 11, Code: api.ErrSyntax}, {At: 21, Code: api.ErrToken}, {At: 33, Code: api.ErrToken}},
		"table b of u { }; table":                                   {{At: 23, Code: api.ErrSyntax}},
		"table b of u { }; x # ;":                                   {{At: 18, Code: api.ErrSyntax}},
		"7 [m^9] ; table b of u { }; feature f of u: int = 7 [m^9]": {{At: 0, Code: api.ErrSyntax}, {At: 52, Code: api.ErrUnit}},
	} {
		got := checkModule(t, g, "P9.5", src)
		if !slices.Equal(got.bad, want) || len(got.m.Tables) != 1 || got.m.Tables[0].Name != "b" || len(got.m.Features) != 0 {
			t.Errorf("P9.5: of %q remain %+v with the problems %+v, not %+v", src, got.m, got.bad, want)
		}
	}
}

func TestProblems(t *testing.T) {
	g := grammar()
	r := random()
	for n := range 40 {
		for _, parts := range [][]string{{";"}, {"$ "}, {"; ", "$ "}, {"table t of u { }; ; "}, {"table x \"\t\" ;", "$ "}} {
			var src strings.Builder
			many := 0
			for range n {
				part := pick(r, parts)
				src.WriteString(part)
				many += strings.Count(strings.ReplaceAll(part, "};", ""), ";") + strings.Count(part, "$") + strings.Count(part, "\t")
			}
			src.WriteString("table b of u { }; 7")
			got := checkModule(t, g, "P9.1", src.String())
			tables := got.m.Tables
			if len(got.bad) != min(many+1, 32) || len(tables) == 0 || tables[len(tables)-1].Name != "b" || got.code != api.OK {
				t.Errorf("P9.1: Module of %q returns %d problems, not %d, and %+v", src.String(), len(got.bad), min(many+1, 32), got.m)
			}
			if !slices.IsSortedFunc(got.bad, func(a, b api.Problem) int { return a.At - b.At }) {
				t.Errorf("P9.1: the problems %+v are not in order", got.bad)
			}
		}
	}
	for n := 30; n < 36; n++ {
		lexical, syntactic := strings.Repeat("$ ", n), strings.Repeat(";", n)
		for src, last := range map[string]api.Errno{lexical + syntactic: api.ErrToken, syntactic + lexical: api.ErrSyntax} {
			got := checkModule(t, g, "P9.1", src)
			if len(got.bad) != 32 || n > 31 && got.bad[31].Code != last || n < 32 && got.bad[n-1].Code != last {
				t.Errorf("P9.1: the problems of %q are %+v", src, got.bad)
			}
		}
	}
}

func TestLexerProblems(t *testing.T) {
	g := grammar()
	for src, want := range map[string]api.Problem{
		"": {At: 0, Code: api.ErrSyntax}, "  \n": {At: 3, Code: api.ErrSyntax}, "#": {At: 1, Code: api.ErrSyntax},
		"$": {At: 0, Code: api.ErrToken}, "a $": {At: 2, Code: api.ErrToken}, "a $ 1.1234567": {At: 2, Code: api.ErrToken}, "1.1234567 $": {At: 0, Code: api.ErrForm}, ") $": {At: 2, Code: api.ErrToken}, "7 [m^9] \"": {At: 8, Code: api.ErrToken}, "@u \"\" 1152921504606846977": {At: 6, Code: api.ErrLimit},
		"a a": {At: 2, Code: api.ErrSyntax}, "a;": {At: 1, Code: api.ErrSyntax}, "a)": {At: 1, Code: api.ErrSyntax}, "abcdefghijklmnopqrstuvwxy": {At: 0, Code: api.ErrLimit}, "table t of u { };": {At: 0, Code: api.ErrSyntax}, "A": {At: 0, Code: api.ErrToken},
	} {
		isWrong(t, g, "P9.2", src, want.At, want.Code)
	}
	for n := range 3 {
		blanks := strings.Repeat(" ", api.MaxSource-2+n)
		want := results{x: feature("a")}
		wantType := results{t: api.Type{Kind: api.BoolV}}
		wantModule := results{bad: []api.Problem{{At: 0, Code: api.ErrSyntax}}}
		if n == 2 {
			want, wantType, wantModule = results{code: api.ErrLimit}, results{code: api.ErrLimit}, results{code: api.ErrLimit}
		}
		if got := checkExpr(t, g, "P9.2", "a"+blanks); !same(got, want) {
			t.Errorf("P9.2: Expr of %d bytes returns %+v", n+api.MaxSource-1, got)
		}
		if got := checkType(t, g, "P9.2", "bool"+blanks[3:]); !same(got, wantType) {
			t.Errorf("P9.2: Type of %d bytes returns %+v", n+api.MaxSource-1, got)
		}
		if got := checkModule(t, g, "P9.1", ";"+blanks); !same(got, wantModule) {
			t.Errorf("P9.1: Module of %d bytes returns %+v", n+api.MaxSource-1, got)
		}
	}
}

// walk calls visit for each source that consists of front and at most depth of the words and that is a beginning of what the rule permits, with the words by which it cannot go on.
func (g rules) walk(rule, front string, words []string, depth int, visit func(begun string, wrong []string)) {
	var step func(state []*stack, begun string, depth int)
	step = func(state []*stack, begun string, depth int) {
		var wrong []string
		for _, word := range words {
			tokens, _, _ := lexer.Tokens([]byte(word))
			after := g.next(state, tokens[0])
			if len(after) == 0 {
				wrong = append(wrong, word)
			} else if depth > 0 {
				step(after, begun+word+" ", depth-1)
			}
		}
		visit(begun, wrong)
	}
	state := []*stack{{g[rule], nil}}
	tokens, _, _ := lexer.Tokens([]byte(front))
	for _, t := range tokens[:len(tokens)-1] {
		state = g.next(state, t)
	}
	step(state, front, depth)
}

func TestWrongTokens(t *testing.T) {
	g := grammar()
	right, faults := 0, 0
	for _, c := range []struct {
		front string
		words []string
		depth int
	}{
		{"", words, 2}, {"", few, 4}, {"not a + ", words, 2}, {"if a then (b) else ", words, 2}, {"sum(t, ", words, 2}, {"count(t, all where ", few, 3}, {"decay(t, a, ", words, 3},
		{"", strings.Fields("decay ( t , 500 all session where )"), 11}, {"7 ", strings.Fields("[ ] m ^ - 9 *"), 8},
	} {
		g.walk("expr", c.front, c.words, c.depth, func(begun string, wrong []string) {
			switch got := checkExpr(t, g, "P9.2", begun); got.code {
			case api.OK:
				right++
			case api.ErrSyntax:
			default: // a further fault, which comes first
				faults++
				return
			}
			for _, word := range wrong {
				if x, at, e := Expr([]byte(begun + word)); e != api.ErrSyntax || at != len(begun) || !same(x, api.Expr{}) {
					t.Fatalf("P9.2: Expr of %q returns %+v, %d, %d: its last token is wrong", begun+word, x, at, e)
				}
			}
		})
	}
	if right < 1000 || faults < 10 {
		t.Errorf("only %d right expressions and %d further faults", right, faults)
	}
}

func TestWrongTokensOfItems(t *testing.T) {
	g := grammar()
	right := 0
	for _, c := range []struct {
		front string
		words []string
		depth int
	}{
		{"", strings.Fields("table t of { } , : int bool key keep 7 ; [ ]"), 18}, {"table t of u { ", words, 3}, {"table t of u { a: int [ m ] ", words, 2}, {"table t of u { } ", words, 3},
		{"feature ", words, 3}, {"feature f of u ", words, 3}, {"feature f of u: int [ m ] ", words, 2}, {"feature f of u: bool = ", few, 4},
	} {
		g.walk("item", c.front, c.words, c.depth, func(begun string, wrong []string) {
			got := checkModule(t, g, "P9.1", begun)
			right += len(got.m.Tables) + len(got.m.Features)
			if len(got.bad) != 1 || got.bad[0].Code != api.ErrSyntax {
				return // right, or a further fault
			}
			for _, word := range wrong {
				if _, bad, _ := Module([]byte(begun + word)); len(bad) == 0 || bad[0] != (api.Problem{At: len(begun), Code: api.ErrSyntax}) {
					t.Fatalf("P9.1: Module of %q has the problems %+v: its last token is wrong", begun+word, bad)
				}
			}
		})
	}
	if right < 100 {
		t.Errorf("only %d right items", right)
	}
}

// sources are some of whose tokens the tests change: together they contain everything that the grammar permits.
var sources = []string{
	"if not a == 1 [m] then -b * 2.5 [s^-2 * m] else c of (null(d))",
	"(a or b and c != \"k\") default @u \"u7\" default true",
	"count(t, sliding 7 where a < 1) + quantile(t, a * 2, 500, session 3 where not b)",
	"decay(t, if a then 1 else (2), 10, tumbling 5) / sum(t, null(a) or false, all)",
	"first(t, a, all) <= last(t, b - c - 1, all where @u \"k\" == a default b)",
}

func TestChangedTokens(t *testing.T) {
	g := grammar()
	wrong := map[api.Errno]int{}
	check := func(src string, isItem bool) {
		if isItem {
			for _, problem := range checkModule(t, g, "P9.1", src).bad {
				wrong[problem.Code]++
			}
			return
		}
		wrong[checkExpr(t, g, "P9.2", src).code]++
	}
	for i, src := range append(slices.Clone(sources), "table t of u { a: int [m], b: key k, c: text } keep 7; feature f of u: dec [s] = 1.5 [s];") {
		isItem := i == len(sources)
		l, _, _ := lexer.Tokens([]byte(src))
		for i, token := range l {
			check(src[:token.At], isItem)
			next := len(src)
			if i+1 < len(l) {
				next = l[i+1].At
				check(src[:token.At]+src[next:], isItem) // without the token
			}
			for _, word := range append(words, `""`) {
				check(src[:token.At]+" "+word+" "+src[next:], isItem)     // instead of the token
				check(src[:token.At]+" "+word+" "+src[token.At:], isItem) // in front of it
			}
		}
	}
	if wrong[api.OK] < 100 || wrong[api.ErrSyntax] < 1000 || wrong[api.ErrForm] < 3 {
		t.Errorf("the sources have too few problems: %v", wrong)
	}
}

func TestSentences(t *testing.T) {
	g := grammar()
	r := random()
	codes := map[api.Errno]int{}
	for range 5000 {
		l := g.sentence(r, "expr", r.IntN(200))
		codes[checkExpr(t, g, "P9.2", written(r, l, false)).code]++
		checkExpr(t, g, "P9.2", written(r, changed(r, l), r.IntN(2) == 0))
		checkType(t, g, "P9.2", written(r, changed(r, g.sentence(r, "type", 9)), false))
	}
	if codes[api.OK] < 2000 || codes[api.ErrSyntax] > 0 || codes[api.ErrForm] < 50 || codes[api.ErrUnit] < 20 {
		t.Errorf("the sentences have the codes %v", codes)
	}
	clear(codes)
	kept := 0
	for range 2500 {
		var l []string
		for range r.IntN(5) {
			item := g.sentence(r, "item", r.IntN(90))
			if r.IntN(3) == 0 {
				item = changed(r, item)
			}
			l = append(l, item...)
		}
		got := checkModule(t, g, "P9.1", written(r, l, r.IntN(2) == 0))
		kept += len(got.m.Tables) + len(got.m.Features)
		for _, problem := range got.bad {
			codes[problem.Code]++
		}
	}
	if kept < 2000 || len(codes) < 5 {
		t.Errorf("of the modules remain %d items, with the problems %v", kept, codes)
	}
}

func TestNoise(t *testing.T) {
	g := grammar()
	r := random()
	for range 20000 {
		var l []string
		for range r.IntN(12) {
			l = append(l, pick(r, words))
		}
		src := written(r, l, true)
		checkModule(t, g, "P9.1", src)
		checkExpr(t, g, "P9.2", src)
		checkType(t, g, "P9.2", src)
		b := make([]byte, r.IntN(40))
		for i := range b {
			b[i] = byte(r.IntN(256))
		}
		checkModule(t, g, "P9.1", string(b))
		checkExpr(t, g, "P9.2", string(b))
	}
}

func TestTokensAlone(t *testing.T) {
	g := grammar()
	r := random()
	joined := 0
	for range 3000 {
		var l []string
		for range r.IntN(4) {
			item := g.sentence(r, "item", r.IntN(60))
			if r.IntN(3) == 0 {
				item = changed(r, item)
			}
			l = append(l, item...)
		}
		src := written(r, l, false)
		tokens, problems, e := lexer.Tokens([]byte(src))
		again, code := lexer.Join(tokens)
		if len(problems) > 0 || e != api.OK || code != api.OK {
			continue
		}
		joined++
		others, _, _ := lexer.Tokens(again)
		at := map[int]int{} // the offsets in the source by those in the other one
		for i, token := range others {
			at[token.At] = tokens[i].At
		}
		got, want := ofModule(Module(again)), ofModule(Module([]byte(src)))
		for i := range got.bad {
			got.bad[i].At = at[got.bad[i].At]
		}
		if !same(got, want) {
			t.Fatalf("P9.3: Module of %q returns %+v, and that of %q, which has the same tokens, %+v", src, want, again, got)
		}
		expr := g.sentence(r, "expr", r.IntN(60))
		first, second := ofExpr(Expr([]byte(written(r, expr, false)))), ofExpr(Expr([]byte(strings.Join(expr, " "))))
		if first.code != second.code || !same(first.x, second.x) {
			t.Fatalf("P9.3: %q is parsed as %+v and as %+v", expr, first, second)
		}
	}
	if joined < 1000 {
		t.Errorf("only %d sources were joined again", joined)
	}
}

func TestTwoSources(t *testing.T) {
	g := grammar()
	r := random()
	proper, wrong := 0, 0
	for range 4000 {
		var first, second []string
		for range r.IntN(3) {
			first = append(first, g.sentence(r, "item", r.IntN(40))...)
			second = append(second, changed(r, g.sentence(r, "item", r.IntN(40)))...)
		}
		a := strings.TrimSpace(written(r, first, false)) + pick(r, []string{"", " ", "# ;", "\r"})
		b := written(r, second, r.IntN(2) == 0)
		got, left, right := ofModule(Module([]byte(a+"\n"+b))), ofModule(Module([]byte(a))), ofModule(Module([]byte(b)))
		if len(left.bad) > 0 || left.code != api.OK || got.code != api.OK {
			continue
		}
		proper++
		wrong += len(right.bad)
		want := api.Module{Tables: slices.Concat(left.m.Tables, right.m.Tables), Features: slices.Concat(left.m.Features, right.m.Features)}
		for i := range right.bad {
			right.bad[i].At += len(a) + 1
		}
		if !same(got, results{m: want, bad: right.bad}) {
			t.Fatalf("P9.4: Module of %q and %q returns %+v, not %+v with the problems %+v", a, b, got, want, right.bad)
		}
	}
	if proper < 1000 || wrong < 1000 {
		t.Errorf("only %d sources without problems, with %d problems behind them", proper, wrong)
	}
}

func TestGrouping(t *testing.T) {
	g := grammar()
	a, b, c := feature("a"), feature("b"), feature("c")
	for rank, ops := range applied {
		for _, op := range strings.Fields(ops) {
			for otherRank, others := range applied {
				for _, other := range strings.Fields(others) {
					src := "a " + op + " b " + other + " c"
					comparisons := ops == "== != < <=" && others == ops
					switch {
					case comparisons:
						isWrong(t, g, "P9.6", src, len("a "+op+" b "), api.ErrSyntax)
					case rank < otherRank:
						isExpr(t, g, "P9.6", src, two(a, op, two(b, other, c)))
					default:
						isExpr(t, g, "P9.6", src, two(two(a, op, b), other, c))
					}
					isExpr(t, g, "P9.6", "(a "+op+" b) "+other+" c", two(two(a, op, b), other, c))
					isExpr(t, g, "P9.6", "a "+op+" (b "+other+" c)", two(a, op, two(b, other, c)))
				}
			}
			switch {
			case rank < 3:
				isExpr(t, g, "P9.6", "not a "+op+" b", two(one("not", a), op, b))
				isExpr(t, g, "P9.6", "a "+op+" not b", two(a, op, one("not", b)))
			default:
				isExpr(t, g, "P9.6", "not a "+op+" b", one("not", two(a, op, b)))
				isWrong(t, g, "P9.6", "a "+op+" not b", len("a "+op+" "), api.ErrSyntax)
			}
			isExpr(t, g, "P9.6", "- a "+op+" b", two(one("-", a), op, b))
			isExpr(t, g, "P9.6", "a "+op+" - b", two(a, op, one("-", b)))
			isWrong(t, g, "P9.6", "- not a", 2, api.ErrSyntax)
			isWrong(t, g, "P9.6", "a "+op+" if a then b else c", len("a "+op+" "), api.ErrSyntax)
			isExpr(t, g, "P9.6", "if a then b else c "+op+" a", choose(a, b, two(c, op, a)))
			isExpr(t, g, "P9.6", "if a "+op+" b then b "+op+" c else c", choose(two(a, op, b), two(b, op, c), c))
		}
	}
}

// rankOf returns the index in applied of the operator that is applied last in x; that of "not" is that of the comparisons, "-" is above all of them, an IfE is below.
func rankOf(x api.Expr) int {
	switch {
	case x.Kind == api.IfE:
		return -1
	case x.Kind == api.DefaultE:
		return 0
	case x.Kind == api.UnaryE && x.Op == "not":
		return 3
	case x.Kind == api.UnaryE && x.Op == "-":
		return len(applied)
	case x.Kind == api.BinaryE:
		return slices.IndexFunc(applied, func(ops string) bool { return slices.Contains(strings.Fields(ops), x.Op) })
	}
	return len(applied) + 1
}

// printer prints expressions with the parentheses that are needed and, for each expression in which it stands for one more, with others.
type printer struct{ more func() bool }

// print returns a source of x where it stands beside an operator of this rank.
func (p printer) print(x api.Expr, rank int) string {
	s := p.bare(x)
	if rankOf(x) < rank {
		s = "(" + s + ")"
	}
	for p.more() {
		s = "(" + s + ")"
	}
	return s
}

// bare returns a source of x without parentheses around it.
func (p printer) bare(x api.Expr) string {
	rank := rankOf(x)
	switch x.Kind {
	case api.IfE:
		return "if " + p.print(x.Args[0], -1) + " then " + p.print(x.Args[1], -1) + " else " + p.print(x.Args[2], -1)
	case api.DefaultE:
		return p.print(x.Args[0], 0) + " default " + p.print(x.Args[1], 1)
	case api.BinaryE:
		left := rank
		if rank == 3 {
			left = 4
		}
		return p.print(x.Args[0], left) + " " + x.Op + " " + p.print(x.Args[1], rank+1)
	case api.UnaryE:
		if x.Op == "null" {
			return "null(" + p.print(x.Args[0], -1) + ")"
		}
		if x.Op == "not" && x.Args[0].Kind == api.BinaryE && rankOf(x.Args[0]) == 3 {
			return "not " + p.print(x.Args[0], 3)
		}
		return x.Op + " " + p.print(x.Args[0], rank)
	case api.LookupE:
		return x.Name + " of (" + p.print(x.Args[0], -1) + ")"
	case api.AggE:
		return "sum(t, " + p.print(x.Args[0], -1) + ", all where " + p.print(x.Args[1], -1) + ")"
	case api.LitE:
		return x.Val.S + "7 [m]"
	}
	return x.Name
}

// anyExpr returns an expression of at most this many levels.
func anyExpr(r *rand.Rand, levels int, inside bool) api.Expr {
	sub := func() api.Expr { return anyExpr(r, levels-1, inside) }
	if levels == 0 {
		if r.IntN(4) == 0 {
			x := int1(7)
			x.Unit = []api.Factor{{Name: "m", Exp: 1}}
			return x
		}
		if inside {
			return field("a")
		}
		return feature("a")
	}
	switch n := r.IntN(20); {
	case n < 2:
		return choose(sub(), sub(), sub())
	case n < 5:
		return one(pick(r, []string{"-", "not", "null"}), sub())
	case n == 5 && !inside:
		return lookup("b", sub())
	case n == 6 && !inside:
		return agg("sum", anyExpr(r, levels-1, true), 0, api.AllW, 0, anyExpr(r, levels-1, true))
	case n < 8:
		return anyExpr(r, 0, inside)
	}
	return two(sub(), pick(r, strings.Fields(pick(r, applied))), sub())
}

func TestParentheses(t *testing.T) {
	g := grammar()
	r := random()
	for i := range 6000 {
		x := anyExpr(r, r.IntN(5), false)
		least := printer{func() bool { return false }}.print(x, -1)
		more := printer{func() bool { return r.IntN(3) == 0 }}.print(x, -1)
		for _, src := range []string{least, more} {
			if got, at, e := Expr([]byte(src)); e != api.OK || at != 0 || !same(got, x) {
				t.Fatalf("P9.6: Expr of %q returns %+v, %d, %d, not %+v", src, got, at, e, x)
			}
		}
		if i%20 == 0 {
			checkExpr(t, g, "P9.6", least)
			checkExpr(t, g, "P9.6", more)
		}
	}
}

func TestNesting(t *testing.T) {
	for _, c := range []struct {
		front, middle, back string
		levels              int
	}{{"(", "a", ")", 8191}, {"-", "a", "", 16383}, {"not ", "a", "", 4000}, {"null(", "a", ")", 2700}, {"a of(", "a", ")", 2300}, {"if a then a else ", "a", "", 900}, {"if ", "a", " then a else a", 900}, {"a+(", "a", ")", 4000}, {"a-", "a", "", 8000}, {"", "a", " default a", 1600}, {"sum(t,a,all)*", "a", "", 1000}} {
		src := strings.Repeat(c.front, c.levels) + c.middle + strings.Repeat(c.back, c.levels)
		x, at, e := Expr([]byte(src))
		if e != api.OK || at != 0 || x.Kind == 0 {
			t.Errorf("P9.2: %d levels of %q and %q lead to %d, %d", c.levels, c.front, c.back, at, e)
		}
		levels := 0
		for ; len(x.Args) > 0 && (x.Kind != api.AggE); levels++ {
			x = slices.MaxFunc(x.Args, func(a, b api.Expr) int { return len(a.Args) - len(b.Args) })
		}
		if levels != c.levels && c.front != "(" {
			t.Errorf("P9.2: %d levels of %q and %q are parsed as %d", c.levels, c.front, c.back, levels)
		}
	}
	for _, part := range []string{"(", "-", "not ", "if ", "null(", "a of(", "sum(t,(", "[", "table ", "a+("} {
		src := strings.Repeat(part, api.MaxSource/len(part))
		if _, _, e := Expr([]byte(src)); e != api.ErrSyntax {
			t.Errorf("P9.2: Expr of many %q returns %d", part, e)
		}
		if _, bad, e := Module([]byte("feature f of u: int = " + src[22:])); len(bad) != 1 || e != api.OK {
			t.Errorf("P9.1: Module of many %q returns %+v, %d", part, bad, e)
		}
	}
}

// slicesOf adds the addresses of the memory of the slices in v to seen, and says whether none of them was there.
func slicesOf(v reflect.Value, seen map[uintptr]bool) (fresh bool) {
	fresh = true
	switch v.Kind() {
	case reflect.Slice:
		if v.Cap() > 0 {
			size := v.Type().Elem().Size()
			for i := range v.Cap() {
				at := v.Pointer() + uintptr(i)*size
				fresh = fresh && !seen[at]
				seen[at] = true
			}
		}
		for i := range v.Len() {
			fresh = slicesOf(v.Index(i), seen) && fresh
		}
	case reflect.Struct:
		for i := range v.NumField() {
			fresh = slicesOf(v.Field(i), seen) && fresh
		}
	}
	return fresh
}

func TestPurity(t *testing.T) {
	g := grammar()
	r := random()
	for range 1500 {
		var l []string
		for range 1 + r.IntN(4) {
			l = append(l, g.sentence(r, "item", r.IntN(60))...)
		}
		src := []byte(written(r, l, true))
		before := string(src)
		m, bad, e := Module(src)
		again := ofModule(Module(src))
		if string(src) != before || !same(ofModule(m, bad, e), again) {
			t.Fatalf("P9.1: Module of %q changes it or depends on more", before)
		}
		seen := map[uintptr]bool{}
		for _, v := range []any{m, bad, again.m, again.bad} {
			if !slicesOf(reflect.ValueOf(v), seen) {
				t.Fatalf("P9.1: two lists in the results of Module of %q share memory", before)
			}
		}
		clear(src)
		if !same(ofModule(m, bad, e), again) {
			t.Fatalf("P9.1: the results of Module of %q share its memory", before)
		}
	}
	for _, s := range sources {
		src := []byte(s)
		x, _, _ := Expr(src)
		other, _, _ := Expr(src)
		seen := map[uintptr]bool{}
		if string(src) != s || !slicesOf(reflect.ValueOf(x), seen) || !slicesOf(reflect.ValueOf(other), seen) {
			t.Errorf("P9.2: Expr of %q changes it, or its results share memory", s)
		}
		clear(src)
		if !same(x, other) {
			t.Errorf("P9.2: the result of Expr of %q shares its memory", s)
		}
	}
}
