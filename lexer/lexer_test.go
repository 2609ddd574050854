package lexer

import (
	"bytes"
	"math"
	"math/big"
	"math/rand/v2"
	"regexp"
	"slices"
	"strings"
	"testing"

	"asof/api"
	"asof/values"
)

// keywords are those of the chapter, in its order.
const keywords = "table feature of keep bool text key int dec if then else default or and not true false null count sum mean min max first last distinct quantile decay all sliding tumbling session where"

// printable are the bytes of a text.
const printable = " !#$%&'()*+,-./0123456789:;<=>?@ABCDEFGHIJKLMNOPQRSTUVWXYZ[]^_`abcdefghijklmnopqrstuvwxyz{|}~"

// signs are those of the chapter, in its order.
var signs = strings.Fields("== != <= { } ( ) [ ] , : ; = < + - * / ^ @")

func w(s string, at int) api.Token { return api.Token{Kind: api.TokWord, Text: s, At: at} }
func i(s string, at int) api.Token { return api.Token{Kind: api.TokInt, Text: s, At: at} }
func d(s string, at int) api.Token { return api.Token{Kind: api.TokDec, Text: s, At: at} }
func x(s string, at int) api.Token { return api.Token{Kind: api.TokText, Text: s, At: at} }
func g(s string, at int) api.Token { return api.Token{Kind: api.TokSign, Text: s, At: at} }
func end(at int) api.Token         { return api.Token{Kind: api.TokEnd, At: at} }

// list returns the list of these tokens.
func list(l ...api.Token) []api.Token { return l }

// faults returns the problems whose offsets and codes follow one another.
func faults(parts ...api.Errno) (l []api.Problem) {
	for i := 0; i+1 < len(parts); i += 2 {
		l = append(l, api.Problem{At: int(parts[i]), Code: parts[i+1]})
	}
	return l
}

// letters returns n letters a.
func letters(n int) string { return strings.Repeat("a", n) }

// random returns a source of the same numbers in each run.
func random() *rand.Rand { return rand.New(rand.NewPCG(8, 24)) }

// outcome is what Tokens returns.
type outcome struct {
	l   []api.Token
	bad []api.Problem
	e   api.Errno
}

// is says whether both outcomes are the same.
func (o outcome) is(p outcome) bool {
	return o.e == p.e && slices.Equal(o.l, p.l) && slices.Equal(o.bad, p.bad)
}

// tokens returns what Tokens returns.
func tokens(s string) outcome {
	l, bad, e := Tokens([]byte(s))
	return outcome{l, bad, e}
}

// joined is what Join returns.
type joined struct {
	s string
	e api.Errno
}

// join returns what Join returns.
func join(l []api.Token) joined {
	b, e := Join(l)
	return joined{string(b), e}
}

// between matches what stands between tokens and problems.
var between = regexp.MustCompile(`^(?:[\t\n\r ]|#[^\n]*)*`)

// shapes match the tokens of each kind, but for their limits, in the order of the chapter.
var shapes = []*regexp.Regexp{
	api.TokWord: regexp.MustCompile(`^[a-z][a-z0-9_]*`),
	api.TokInt:  regexp.MustCompile(`^[0-9]+`),
	api.TokDec:  regexp.MustCompile(`^[0-9]+\.[0-9]+`),
	api.TokText: regexp.MustCompile(`^"[^"\n]*"`),
	api.TokSign: regexp.MustCompile(`^(?:==|!=|<=|[{}()\[\],:;=<+*/^@-])`),
}

// wantedShape returns the kind of what s begins with, and its bytes; 0 and one byte if that is a foreign byte.
func wantedShape(s string) (kind int, part string) {
	for _, kind := range []int{api.TokWord, api.TokDec, api.TokInt, api.TokText, api.TokSign} {
		if part := shapes[kind].FindString(s); part != "" {
			return kind, part
		}
	}
	return 0, s[:1]
}

// isBeyond says whether the number s, times this factor, is beyond the limit of numbers.
func isBeyond(s string, factor int64) bool {
	n, _ := new(big.Rat).SetString(s)
	return n.Mul(n, big.NewRat(factor, 1)).Cmp(big.NewRat(1<<60, 1)) > 0
}

// wantedCode returns the code of the problem that part is; OK if it is a token.
func wantedCode(kind int, part string) api.Errno {
	_, places, _ := strings.Cut(part, ".")
	switch {
	case kind == 0:
		return 80
	case kind == api.TokDec && len(places) > 6, kind == api.TokText && len(part) <= 66 && strings.Trim(part[1:len(part)-1], printable) != "":
		return 3
	case kind == api.TokWord && len(part) > 24, kind == api.TokInt && isBeyond(part, 1), kind == api.TokDec && isBeyond(part, 1000000), kind == api.TokText && len(part) > 66:
		return 2
	}
	return 0
}

// wantedParts returns the tokens and all problems of s, by the section 'Terms' of the chapter, and the TokEnd.
func wantedParts(s string) (l []api.Token, bad []api.Problem) {
	foreign := make([]bool, len(s)+1) // one later than the byte that is foreign
	for at := len(between.FindString(s)); at < len(s); at += len(between.FindString(s[at:])) {
		kind, part := wantedShape(s[at:])
		code := wantedCode(kind, part)
		foreign[at+len(part)] = kind == 0
		switch {
		case code == 0 && kind == api.TokText:
			l = append(l, api.Token{Kind: kind, Text: strings.Trim(part, `"`), At: at})
		case code == 0:
			l = append(l, api.Token{Kind: kind, Text: part, At: at})
		case kind != 0 || !foreign[at]:
			bad = append(bad, api.Problem{At: at, Code: code})
		}
		at += len(part)
	}
	return append(l, end(len(s))), bad
}

// wantedTokens returns what the chapter says about Tokens.
func wantedTokens(s string) (o outcome) {
	if len(s) > 16384 {
		return outcome{e: 2}
	}
	o.l, o.bad = wantedParts(s)
	o.bad = o.bad[:min(len(o.bad), 32)]
	return o
}

// wantedJoin returns what the chapter says about Join.
func wantedJoin(l []api.Token) joined {
	var sources []string
	for i, t := range l {
		if i == len(l)-1 && t.Kind == api.TokEnd && t.Text == "" {
			break
		}
		s := t.Text
		if t.Kind == api.TokText {
			s = `"` + s + `"`
		}
		parts, bad := wantedParts(s)
		if len(parts) != 2 || parts[0].Kind != t.Kind || parts[0].Text != t.Text || len(bad) > 0 {
			return joined{e: 3}
		}
		sources = append(sources, s)
	}
	if s := strings.Join(sources, " "); len(s) <= 16384 {
		return joined{s: s}
	}
	return joined{e: 2}
}

// checkTokens compares what Tokens returns for s with what the chapter says.
func checkTokens(t *testing.T, s string) {
	t.Helper()
	if o, want := tokens(s), wantedTokens(s); !o.is(want) {
		t.Errorf("P8.1: Tokens of %.200q returns %.300v and not %.300v", s, o, want)
	}
}

// row is a source with its tokens (without the end) and its problems.
type row struct {
	src string
	l   []api.Token
	bad []api.Problem
}

// checkRows compares what Tokens returns for the sources of the rows with what they say.
func checkRows(t *testing.T, rows []row) {
	t.Helper()
	for _, r := range rows {
		want := outcome{l: append(slices.Clone(r.l), end(len(r.src))), bad: r.bad}
		if o := tokens(r.src); !o.is(want) {
			t.Errorf("P8.1: Tokens of %.200q returns %.300v and not %.300v", r.src, o, want)
		}
		checkTokens(t, r.src) // so that the definition above is tested, too
	}
}

func TestExamples(t *testing.T) {
	checkRows(t, []row{
		{"x==-1;", list(w("x", 0), g("==", 1), g("-", 3), i("1", 4), g(";", 5)), nil},
		{"12ab 1.", list(i("12", 0), w("ab", 2), i("1", 5)), faults(6, api.ErrToken)},
		{"a $$ b $", list(w("a", 0), w("b", 5)), faults(2, api.ErrToken, 7, api.ErrToken)},
		{`"a b" "c`, list(x("a b", 0), w("c", 7)), faults(6, api.ErrToken)},
		{"0.1234567", nil, faults(0, api.ErrForm)},
		{"a<=1.5 # note", list(w("a", 0), g("<=", 1), d("1.5", 3)), nil},
	})
}

func TestBlanksAndComments(t *testing.T) {
	checkRows(t, []row{
		{"", nil, nil},
		{" ", nil, nil},
		{"\t\n\r ", nil, nil},
		{strings.Repeat(" \r\n\t", 4096), nil, nil},
		{"#", nil, nil},
		{"#\n", nil, nil},
		{"# a 1 $ \" \x00\xff", nil, nil},
		{"# a 1 $ \"\n", nil, nil},
		{"##\n#\n\n # #\n#", nil, nil},
		{"#\r a", nil, nil},
		{"#\na", list(w("a", 2)), nil},
		{"#a\n#b\nc#d\ne", list(w("c", 6), w("e", 10)), nil},
		{" a ", list(w("a", 1)), nil},
		{"a#b", list(w("a", 0)), nil},
		{"a\tb\rc\nd e", list(w("a", 0), w("b", 2), w("c", 4), w("d", 6), w("e", 8)), nil},
		{"a\vb", list(w("a", 0), w("b", 2)), faults(1, api.ErrToken)},
		{"1#2\n3", list(i("1", 0), i("3", 4)), nil},
		{"1.#2\n3", list(i("1", 0), i("3", 5)), faults(1, api.ErrToken)},
		{"<#\n=", list(g("<", 0), g("=", 3)), nil},
	})
}

func TestLengthOfSources(t *testing.T) {
	for _, unit := range []string{" ", "#", "a b ", "=", "1", "\"", "$", "$ ", "\"\"", "#\n", "\xff", "0", "1.", "\x00"} {
		for _, n := range []int{16383, 16384, 16385, 16386, 32768, 1 << 17} {
			s := strings.Repeat(unit, n)[:n]
			checkTokens(t, s)
			if o := tokens(s); n > 16384 && !o.is(outcome{e: api.ErrLimit}) {
				t.Errorf("P8.1: Tokens of %d bytes returns %.100v", n, o)
			}
		}
	}
	if l, bad, e := Tokens(nil); !slices.Equal(l, list(end(0))) || len(bad) > 0 || e != api.OK {
		t.Error("P8.1: Tokens of nil returns", l, bad, e)
	}
}

func TestWords(t *testing.T) {
	checkRows(t, []row{
		{letters(24), list(w(letters(24), 0)), nil},
		{letters(25), nil, faults(0, api.ErrLimit)},
		{letters(25) + " b", list(w("b", 26)), faults(0, api.ErrLimit)},
		{letters(1000) + ";", list(g(";", 1000)), faults(0, api.ErrLimit)},
		{"a_1__z9_", list(w("a_1__z9_", 0)), nil},
		{"z" + strings.Repeat("_", 23), list(w("z"+strings.Repeat("_", 23), 0)), nil},
		{"z" + strings.Repeat("9", 24), nil, faults(0, api.ErrLimit)},
		{"table of user", list(w("table", 0), w("of", 6), w("user", 9)), nil},
		{"Ab", list(w("b", 1)), faults(0, api.ErrToken)},
		{"aB", list(w("a", 0)), faults(1, api.ErrToken)},
		{"1b", list(i("1", 0), w("b", 1)), nil},
		{"_b", list(w("b", 1)), faults(0, api.ErrToken)},
		{"__b", list(w("b", 2)), faults(0, api.ErrToken)},
		{"a-b", list(w("a", 0), g("-", 1), w("b", 2)), nil},
		{"größe", list(w("gr", 0), w("e", 6)), faults(2, api.ErrToken)},
		{letters(25) + "$", nil, faults(0, api.ErrLimit, 25, api.ErrToken)},
	})
}

func TestIntegers(t *testing.T) {
	zeros := strings.Repeat("0", 16000)
	checkRows(t, []row{
		{"0", list(i("0", 0)), nil},
		{"00", list(i("00", 0)), nil},
		{"007", list(i("007", 0)), nil},
		{"1152921504606846975", list(i("1152921504606846975", 0)), nil},
		{"1152921504606846976", list(i("1152921504606846976", 0)), nil},
		{"1152921504606846977", nil, faults(0, api.ErrLimit)},
		{"01152921504606846976", list(i("01152921504606846976", 0)), nil},
		{"01152921504606846977 1", list(i("1", 21)), faults(0, api.ErrLimit)},
		{"2000000000000000000", nil, faults(0, api.ErrLimit)},
		{"9223372036854775807", nil, faults(0, api.ErrLimit)},
		{"9223372036854775808", nil, faults(0, api.ErrLimit)},
		{"18446744073709551615", nil, faults(0, api.ErrLimit)},
		{"18446744073709551616", nil, faults(0, api.ErrLimit)},
		{"18446744073709551617", nil, faults(0, api.ErrLimit)},
		{"340282366920938463463374607431768211457", nil, faults(0, api.ErrLimit)},
		{strings.Repeat("9", 16384), nil, faults(0, api.ErrLimit)},
		{zeros, list(i(zeros, 0)), nil},
		{zeros + "1152921504606846976", list(i(zeros+"1152921504606846976", 0)), nil},
		{zeros + "1152921504606846977", nil, faults(0, api.ErrLimit)},
		{"-1", list(g("-", 0), i("1", 1)), nil},
		{"+1", list(g("+", 0), i("1", 1)), nil},
		{"1_000", list(i("1", 0), i("000", 2)), faults(1, api.ErrToken)},
		{"0x10", list(i("0", 0), w("x10", 1)), nil},
		{"1e3", list(i("1", 0), w("e3", 1)), nil},
	})
}

func TestDecimals(t *testing.T) {
	zeros := strings.Repeat("0", 16000)
	checkRows(t, []row{
		{"1.5", list(d("1.5", 0)), nil},
		{"0.0", list(d("0.0", 0)), nil},
		{"007.250", list(d("007.250", 0)), nil},
		{"123.456", list(d("123.456", 0)), nil},
		{"1.", list(i("1", 0)), faults(1, api.ErrToken)},
		{"12.a", list(i("12", 0), w("a", 3)), faults(2, api.ErrToken)},
		{"1. 5", list(i("1", 0), i("5", 3)), faults(1, api.ErrToken)},
		{"1 .5", list(i("1", 0), i("5", 3)), faults(2, api.ErrToken)},
		{"1..5", list(i("1", 0), i("5", 3)), faults(1, api.ErrToken)},
		{".5", list(i("5", 1)), faults(0, api.ErrToken)},
		{".", nil, faults(0, api.ErrToken)},
		{"1.2.3", list(d("1.2", 0), i("3", 4)), faults(3, api.ErrToken)},
		{"1.2.3.4", list(d("1.2", 0), d("3.4", 4)), faults(3, api.ErrToken)},
		{"a.5", list(w("a", 0), i("5", 2)), faults(1, api.ErrToken)},
		{"1.5a", list(d("1.5", 0), w("a", 3)), nil},
		{"a1.5", list(w("a1", 0), i("5", 3)), faults(2, api.ErrToken)},
		{"1,5", list(i("1", 0), g(",", 1), i("5", 2)), nil},
		{"-1.5", list(g("-", 0), d("1.5", 1)), nil},
		{"0.123456", list(d("0.123456", 0)), nil},
		{"0.1234567 a", list(w("a", 10)), faults(0, api.ErrForm)},
		{"0.0000000", nil, faults(0, api.ErrForm)},
		{"1152921504606.846976", list(d("1152921504606.846976", 0)), nil},
		{"0001152921504606.846976", list(d("0001152921504606.846976", 0)), nil},
		{"1152921504606.84697", list(d("1152921504606.84697", 0)), nil},
		{"1152921504606.846977", nil, faults(0, api.ErrLimit)},
		{"1152921504606.9", nil, faults(0, api.ErrLimit)},
		{"1152921504607.0 b", list(w("b", 16)), faults(0, api.ErrLimit)},
		{"1152921504607.0000000", nil, faults(0, api.ErrForm)},
		{"18446744073709.551616", nil, faults(0, api.ErrLimit)},
		{strings.Repeat("9", 1000) + ".5", nil, faults(0, api.ErrLimit)},
		{"0." + strings.Repeat("0", 1000), nil, faults(0, api.ErrForm)},
		{zeros + "1.5", list(d(zeros+"1.5", 0)), nil},
		{"1.1152921504606846977", nil, faults(0, api.ErrForm)},
		{"1152921504606846977.1", nil, faults(0, api.ErrLimit)},
	})
}

func TestTexts(t *testing.T) {
	checkRows(t, []row{
		{`""`, list(x("", 0)), nil},
		{`""""`, list(x("", 0), x("", 2)), nil},
		{`"""`, list(x("", 0)), faults(2, api.ErrToken)},
		{`"`, nil, faults(0, api.ErrToken)},
		{`a "`, list(w("a", 0)), faults(2, api.ErrToken)},
		{`"a b"`, list(x("a b", 0)), nil},
		{`a"b"c`, list(w("a", 0), x("b", 1), w("c", 4)), nil},
		{`1"2"3`, list(i("1", 0), x("2", 1), i("3", 4)), nil},
		{`"` + letters(64) + `"`, list(x(letters(64), 0)), nil},
		{`"` + letters(65) + `"`, nil, faults(0, api.ErrLimit)},
		{`"` + letters(65) + `" a`, list(w("a", 68)), faults(0, api.ErrLimit)},
		{`"` + letters(64) + "\x00\"", nil, faults(0, api.ErrLimit)},
		{`"` + letters(63) + "\x00\"", nil, faults(0, api.ErrForm)},
		{`"\` + letters(64) + `"`, nil, faults(0, api.ErrLimit)},
		{"\"\x1f\"", nil, faults(0, api.ErrForm)},
		{`" "`, list(x(" ", 0)), nil},
		{`"~"`, list(x("~", 0)), nil},
		{"\"\x7f\"", nil, faults(0, api.ErrForm)},
		{`"\"`, nil, faults(0, api.ErrForm)},
		{`"\""`, nil, faults(0, api.ErrForm, 3, api.ErrToken)},
		{`"a\nb"`, nil, faults(0, api.ErrForm)},
		{"\"\x80\"", nil, faults(0, api.ErrForm)},
		{"\"a\tb\"", nil, faults(0, api.ErrForm)},
		{"\"a\rb\"", nil, faults(0, api.ErrForm)},
		{`"ä"`, nil, faults(0, api.ErrForm)},
		{`"a#b" c`, list(x("a#b", 0), w("c", 6)), nil},
		{`"#"#"`, list(x("#", 0)), nil},
		{`"a #b`, list(w("a", 1)), faults(0, api.ErrToken)},
		{"\"a\nb\"", list(w("a", 1), w("b", 3)), faults(0, api.ErrToken, 4, api.ErrToken)},
		{"\"\n\"", nil, faults(0, api.ErrToken, 2, api.ErrToken)},
		{"\"\n\"a\"", list(x("a", 2)), faults(0, api.ErrToken)},
		{"\"a # \n\"", list(w("a", 1)), faults(0, api.ErrToken, 6, api.ErrToken)},
		{"# \"\n\"a\"", list(x("a", 4)), nil},
		{`"a" "b" "`, list(x("a", 0), x("b", 4)), faults(8, api.ErrToken)},
		{`"'"`, list(x("'", 0)), nil},
		{`'a'`, list(w("a", 1)), faults(0, api.ErrToken, 2, api.ErrToken)},
		{`"if"`, list(x("if", 0)), nil},
	})
	for at, c := range []byte(printable) {
		s := string([]byte{c})
		checkRows(t, []row{{`"` + s + `"`, list(x(s, 0)), nil}, {`"` + printable[at:min(at+64, len(printable))] + `"`, list(x(printable[at:min(at+64, len(printable))], 0)), nil}})
	}
}

func TestSigns(t *testing.T) {
	checkRows(t, []row{
		{"!", nil, faults(0, api.ErrToken)},
		{"!=", list(g("!=", 0)), nil},
		{"! =", list(g("=", 2)), faults(0, api.ErrToken)},
		{"!!=", list(g("!=", 1)), faults(0, api.ErrToken)},
		{"!==", list(g("!=", 0), g("=", 2)), nil},
		{"===", list(g("==", 0), g("=", 2)), nil},
		{"====", list(g("==", 0), g("==", 2)), nil},
		{"<=", list(g("<=", 0)), nil},
		{"< =", list(g("<", 0), g("=", 2)), nil},
		{"<\n=", list(g("<", 0), g("=", 2)), nil},
		{"<==", list(g("<=", 0), g("=", 2)), nil},
		{"<<=", list(g("<", 0), g("<=", 1)), nil},
		{"=<", list(g("=", 0), g("<", 1)), nil},
		{"=!", list(g("=", 0)), faults(1, api.ErrToken)},
		{">=", list(g("=", 1)), faults(0, api.ErrToken)},
		{">", nil, faults(0, api.ErrToken)},
		{"a!b", list(w("a", 0), w("b", 2)), faults(1, api.ErrToken)},
		{"--", list(g("-", 0), g("-", 1)), nil},
		{"@user\"u7\"", list(g("@", 0), w("user", 1), x("u7", 5)), nil},
		{"[eur*h^-1]", list(g("[", 0), w("eur", 1), g("*", 4), w("h", 5), g("^", 6), g("-", 7), i("1", 8), g("]", 9)), nil},
	})
	twice := map[string]bool{"===": true, "==": true, "<=": true}
	for _, a := range signs {
		checkRows(t, []row{{a, list(g(a, 0)), nil}, {" " + a + " ", list(g(a, 1)), nil}, {"a" + a + "1", list(w("a", 0), g(a, 1), i("1", 1+len(a))), nil}})
		for _, b := range signs {
			checkTokens(t, a+b)
			if !twice[a+b[:1]] {
				checkRows(t, []row{{a + b, list(g(a, 0), g(b, len(a))), nil}})
			}
			checkRows(t, []row{{a + " " + b, list(g(a, 0), g(b, len(a)+1)), nil}})
		}
	}
}

func TestForeignBytes(t *testing.T) {
	checkRows(t, []row{
		{"$", nil, faults(0, api.ErrToken)},
		{"$$$$", nil, faults(0, api.ErrToken)},
		{"$?!\"&.'A_\x00\xff", nil, faults(0, api.ErrToken)},
		{"$ $", nil, faults(0, api.ErrToken, 2, api.ErrToken)},
		{"$\n$\r$\t$", nil, faults(0, api.ErrToken, 2, api.ErrToken, 4, api.ErrToken, 6, api.ErrToken)},
		{"$#$\n$", nil, faults(0, api.ErrToken, 4, api.ErrToken)},
		{"#$\n$", nil, faults(3, api.ErrToken)},
		{"$a$", list(w("a", 1)), faults(0, api.ErrToken, 2, api.ErrToken)},
		{"$1$", list(i("1", 1)), faults(0, api.ErrToken, 2, api.ErrToken)},
		{"$1.5$", list(d("1.5", 1)), faults(0, api.ErrToken, 4, api.ErrToken)},
		{"$\"$\"$", list(x("$", 1)), faults(0, api.ErrToken, 4, api.ErrToken)},
		{"$;$", list(g(";", 1)), faults(0, api.ErrToken, 2, api.ErrToken)},
		{"$!=$", list(g("!=", 1)), faults(0, api.ErrToken, 3, api.ErrToken)},
		{"$!$", nil, faults(0, api.ErrToken)},
		{"$\"\\\"$", nil, faults(0, api.ErrToken, 1, api.ErrForm, 4, api.ErrToken)},
		{"$0.1234567$", nil, faults(0, api.ErrToken, 1, api.ErrForm, 10, api.ErrToken)},
		{"$" + letters(25) + "$", nil, faults(0, api.ErrToken, 1, api.ErrLimit, 26, api.ErrToken)},
		{"$$a$$b$$", list(w("a", 2), w("b", 5)), faults(0, api.ErrToken, 3, api.ErrToken, 6, api.ErrToken)},
		{"\"$", nil, faults(0, api.ErrToken)},
		{"$\"", nil, faults(0, api.ErrToken)},
		{"\"$\n\"", nil, faults(0, api.ErrToken, 3, api.ErrToken)},
		{"1.2.", list(d("1.2", 0)), faults(3, api.ErrToken)},
		{"€", nil, faults(0, api.ErrToken)},
		{"\ufeffa", list(w("a", 3)), faults(0, api.ErrToken)},
		{"\x00", nil, faults(0, api.ErrToken)},
	})
}

// What a byte outside of texts is, alone and beside others.
func TestEachByte(t *testing.T) {
	for c := range 256 {
		b := string([]byte{byte(c)})
		for _, s := range []string{b, b + b, "a" + b + "b", "a " + b + " b", "a " + b + b + " b", "$" + b, b + "$", "1" + b + "2", "1." + b, "1.2" + b + "3", `"` + b + `"`, `"` + b, b + `"`, b + "=", "=" + b, "#" + b + "a", b + "\na", "\n" + b, letters(23) + b, letters(24) + b, b + letters(24)} {
			checkTokens(t, s)
		}
	}
}

func TestNumberOfProblems(t *testing.T) {
	for _, n := range []int{0, 1, 30, 31, 32, 33, 34, 64, 100} {
		for _, problem := range []string{"$", letters(25), "0.1234567", "1152921504606846977", `"\"`, "\"\n"} {
			for _, separator := range []string{" ", " a ", "# $\n"} {
				s := strings.Repeat(problem+separator, n)
				for _, rest := range []string{"", "b", "$", "b 1 $ \"c\" ;"} {
					checkTokens(t, s+rest)
					checkTokens(t, "a"+separator+s+rest)
				}
				if o := tokens(s); len(o.bad) != min(n, 32) || n > 0 && o.bad[0] != (api.Problem{At: 0, Code: wantedTokens(problem).bad[0].Code}) {
					t.Errorf("P8.1: %d times %q leads to %v", n, problem+separator, o)
				}
			}
		}
	}
	many := strings.Repeat("$ ", 33)
	o := tokens(many + "a $")
	if len(o.bad) != 32 || o.bad[31].At != 62 || !slices.Equal(o.l, list(w("a", 66), end(69))) {
		t.Errorf("P8.1: Tokens of %q returns %v", many+"a $", o)
	}
}

// pieces are parts of sources: tokens, problems, blanks and comments.
func pieces() (l []string) {
	l = append(l, signs...)
	l = append(l, strings.Fields(keywords)...)
	l = append(l, "a", "b_1", "z9", letters(24), letters(25), letters(23)+"_", "0", "00", "12", "1152921504606846976", "1152921504606846977")
	l = append(l, "1.5", "0.123456", "0.1234567", "1152921504606.846976", "1152921504606.846977", "1.", ".5", "1.2.3")
	l = append(l, `""`, `"a b"`, `"#"`, `"`, `"`, `"`, `"\"`, "\"\x80\"", `"`+letters(64)+`"`, `"`+letters(65)+`"`, "\"a\nb\"")
	l = append(l, "$", "$$", "!", "?", ">", "A", "_", "\x00", "\x80", "ä", "'", "\\")
	return append(l, " ", " ", " ", " ", "\n", "\n", "\n", "\t", "\r", "#", "# a $ \"\n", "#\n", "#")
}

// chanceSources returns n sources of some pieces each.
func chanceSources(n int) (l []string) {
	r, all := random(), pieces()
	for k := range n {
		var s strings.Builder
		for range k % 20 {
			s.WriteString(all[r.IntN(len(all))])
		}
		l = append(l, s.String())
	}
	return l
}

// shortSources returns all sources of at most n of these bytes.
func shortSources(n int, of string) (l []string) {
	l = []string{""}
	for from := 0; n > 0; n-- {
		last := l[from:]
		from = len(l)
		for _, s := range last {
			for _, c := range of {
				l = append(l, s+string(c))
			}
		}
	}
	return l
}

func TestTokens(t *testing.T) {
	found := map[api.Errno]int{}
	sources := slices.Concat(pieces(), chanceSources(20000), shortSources(4, "az09_A.\"\\#\n =<!;$"), shortSources(6, "a1.\"# \n"))
	for _, s := range sources {
		checkTokens(t, s)
		for _, p := range tokens(s).bad {
			found[p.Code]++
		}
	}
	for _, e := range []api.Errno{api.ErrLimit, api.ErrForm, api.ErrToken} {
		if found[e] < 1000 {
			t.Errorf("P8.1: only %d problems have the code %d", found[e], e)
		}
	}
}

// The pieces are also tried with one byte more, less or changed.
func TestChangedPieces(t *testing.T) {
	for _, s := range pieces() {
		for at := range len(s) + 1 {
			for _, c := range []byte("a0_A.\"\\#\n =<!;$\x00\x1f\x7f\x80\xff") {
				more := string([]byte{c})
				checkTokens(t, s[:at]+more+s[at:])
				checkTokens(t, s[:at]+more+s[min(at+1, len(s)):])
			}
			checkTokens(t, s[:at]+s[min(at+1, len(s)):])
		}
	}
}

// nameTexts returns names and what is none.
func nameTexts() (l []string) {
	for n := range 30 {
		l = append(l, letters(n), letters(n)+"z", "b"+strings.Repeat("_", n), "c"+strings.Repeat("9", n), strings.Repeat("0", n))
	}
	for c := range 256 {
		b := string([]byte{byte(c)})
		l = append(l, b, b+b, b+"a", "a"+b, "a"+b+"a", letters(23)+b, letters(24)+b, b+letters(23), b+letters(24))
	}
	for _, k := range strings.Fields(keywords) {
		l = append(l, k, k[1:], k[:len(k)-1], strings.ToUpper(k), strings.ToUpper(k[:1])+k[1:], k+k, k+" ", " "+k, k+"\n", k+"\x00", k+"#", `"`+k+`"`)
		for _, c := range "abcdefghijklmnopqrstuvwxyz0123456789_" {
			l = append(l, k+string(c), string(c)+k, k[:1]+string(c)+k[1:], string(c)+k[1:], k[:len(k)-1]+string(c))
		}
	}
	return append(l, "", "count", "counts", "_a", "A", "a b", "a#", "#a", "a.b", "1.5", "==", "größe", letters(1000), letters(1<<20), keywords, "feature_of", "ofof", "tab", "true1", "False")
}

func TestKeyword(t *testing.T) {
	known := map[string]bool{}
	for _, k := range strings.Fields(keywords) {
		known[k] = true
		if !Keyword(k) || Name(k) {
			t.Errorf("P8.2: Keyword of %q is %t, and Name %t", k, Keyword(k), Name(k))
		}
	}
	if len(known) != 34 {
		t.Errorf("P8.2: there are %d keywords", len(known))
	}
	for _, s := range nameTexts() {
		if ok := Keyword(s); ok != known[s] {
			t.Errorf("P8.2: Keyword of %.100q is %t", s, ok)
		}
	}
}

func TestName(t *testing.T) {
	word := regexp.MustCompile(`^[a-z][a-z0-9_]{0,23}$`)
	names := 0
	for _, s := range nameTexts() {
		want := word.MatchString(s) && !slices.Contains(strings.Fields(keywords), s)
		if want {
			names++
		}
		if ok := Name(s); ok != want {
			t.Errorf("P8.2: Name of %.100q is %t", s, ok)
		}
	}
	if names < 1000 {
		t.Errorf("P8.2: only %d texts are names", names)
	}
	for s, want := range map[string]bool{"count": false, "counts": true, "_a": false, "A": false, "": false, "a": true, "z": true, "a_": true, "a0": true, "a$": false, letters(24): true, letters(25): false, "a ": false, " a": false, "a\n": false, "Aa": false, "aA": false, "0a": false, "a#b": false} {
		if ok := Name(s); ok != want {
			t.Errorf("P8.2: Name of %q is %t", s, ok)
		}
	}
}

func TestJoinOfExamples(t *testing.T) {
	for _, c := range []struct {
		l    []api.Token
		want joined
	}{
		{list(w("a", 0), x("b c", 0)), joined{s: `a "b c"`}},
		{nil, joined{}},
		{list(), joined{}},
		{list(end(0)), joined{}},
		{list(end(-7)), joined{}},
		{list(w("a", 0), end(1)), joined{s: "a"}},
		{list(w("a", 5), w("b", -3), end(math.MinInt)), joined{s: "a b"}},
		{list(end(0), w("a", 0)), joined{e: api.ErrForm}},
		{list(w("a", 0), end(0), w("b", 0)), joined{e: api.ErrForm}},
		{list(end(0), end(0)), joined{e: api.ErrForm}},
		{list(w("a", 0), end(1), end(1)), joined{e: api.ErrForm}},
		{list(api.Token{Kind: api.TokEnd, Text: "a"}), joined{e: api.ErrForm}},
		{list(w("a", 0), api.Token{Kind: api.TokEnd, Text: " "}), joined{e: api.ErrForm}},
		{list(w("if", 0), i("007", 0), d("1.50", 0), x("", 0), g("<=", 0), g("!=", 0)), joined{s: `if 007 1.50 "" <= !=`}},
		{list(g("<", 0), g("=", 0)), joined{s: "< ="}},
		{list(i("1", 0), w("a", 0)), joined{s: "1 a"}},
		{list(x("# a", 0)), joined{s: `"# a"`}},
		{list(x("if", 0), w("of", 0)), joined{s: `"if" of`}},
		{list(w("", 0)), joined{e: api.ErrForm}},
		{list(i("", 0)), joined{e: api.ErrForm}},
		{list(d("", 0)), joined{e: api.ErrForm}},
		{list(g("", 0)), joined{e: api.ErrForm}},
		{list(api.Token{}), joined{e: api.ErrForm}},
		{list(api.Token{Text: "$"}), joined{e: api.ErrForm}},
		{list(api.Token{Text: "a"}), joined{e: api.ErrForm}},
		{list(api.Token{Kind: 7, Text: "a"}), joined{e: api.ErrForm}},
		{list(api.Token{Kind: -1, Text: "a"}), joined{e: api.ErrForm}},
		{list(api.Token{Kind: 257, Text: "a"}), joined{e: api.ErrForm}},
		{list(i("a", 0)), joined{e: api.ErrForm}},
		{list(w("1", 0)), joined{e: api.ErrForm}},
		{list(d("1", 0)), joined{e: api.ErrForm}},
		{list(i("1.5", 0)), joined{e: api.ErrForm}},
		{list(g("a", 0)), joined{e: api.ErrForm}},
		{list(w("+", 0)), joined{e: api.ErrForm}},
		{list(w(`"a"`, 0)), joined{e: api.ErrForm}},
		{list(x(`"a"`, 0)), joined{e: api.ErrForm}},
		{list(x(`a"`, 0)), joined{e: api.ErrForm}},
		{list(x(`"`, 0)), joined{e: api.ErrForm}},
		{list(x(`a" "b`, 0)), joined{e: api.ErrForm}},
		{list(x("a\nb", 0)), joined{e: api.ErrForm}},
		{list(x("\n", 0)), joined{e: api.ErrForm}},
		{list(x(`a\`, 0)), joined{e: api.ErrForm}},
		{list(x("\x1f", 0)), joined{e: api.ErrForm}},
		{list(x("ä", 0)), joined{e: api.ErrForm}},
		{list(x(letters(64), 0)), joined{s: `"` + letters(64) + `"`}},
		{list(x(letters(65), 0)), joined{e: api.ErrForm}},
		{list(w(" ", 0)), joined{e: api.ErrForm}},
		{list(w("a ", 0)), joined{e: api.ErrForm}},
		{list(w(" a", 0)), joined{e: api.ErrForm}},
		{list(w("a#", 0)), joined{e: api.ErrForm}},
		{list(w("#", 0)), joined{e: api.ErrForm}},
		{list(w("#\na", 0)), joined{e: api.ErrForm}},
		{list(w("a b", 0)), joined{e: api.ErrForm}},
		{list(w("a+", 0)), joined{e: api.ErrForm}},
		{list(g("+-", 0)), joined{e: api.ErrForm}},
		{list(g("===", 0)), joined{e: api.ErrForm}},
		{list(g("!", 0)), joined{e: api.ErrForm}},
		{list(g("$", 0)), joined{e: api.ErrForm}},
		{list(w("a$", 0)), joined{e: api.ErrForm}},
		{list(w("$a", 0)), joined{e: api.ErrForm}},
		{list(w(letters(24), 0)), joined{s: letters(24)}},
		{list(w(letters(25), 0)), joined{e: api.ErrForm}},
		{list(i("1152921504606846976", 0)), joined{s: "1152921504606846976"}},
		{list(i("1152921504606846977", 0)), joined{e: api.ErrForm}},
		{list(i("-1", 0)), joined{e: api.ErrForm}},
		{list(d("0.1234567", 0)), joined{e: api.ErrForm}},
		{list(d("1152921504606.846977", 0)), joined{e: api.ErrForm}},
		{list(d("1.", 0)), joined{e: api.ErrForm}},
		{list(w("a", 0), w("B", 0), w("c", 0)), joined{e: api.ErrForm}},
		{list(w("B", 0), end(0)), joined{e: api.ErrForm}},
	} {
		if o := join(c.l); o != c.want {
			t.Errorf("P8.3: Join of %v returns %v and not %v", c.l, o, c.want)
		}
		if want := wantedJoin(c.l); want != c.want {
			t.Errorf("P8.3: Join of %v is defined as %v and not as %v", c.l, want, c.want)
		}
	}
}

// Lengths of results around the limit, of many short tokens, of few long ones, and of one.
func TestLengthOfJoin(t *testing.T) {
	for _, n := range []int{16382, 16383, 16384, 16385, 16386, 20000, 40000} {
		short := slices.Repeat(list(g(";", 0)), (n+1)/2)
		if n%2 == 0 {
			short[0] = g("==", 0)
		}
		long := list(x("ab", 0), i(strings.Repeat("0", n-5), 0))
		for _, l := range [][]api.Token{short, long, list(i(strings.Repeat("0", n), 0)), list(d(strings.Repeat("0", n-2)+".5", 0))} {
			for _, l := range [][]api.Token{l, append(slices.Clone(l), end(0))} {
				o, want := join(l), wantedJoin(l)
				if o != want || n <= 16384 && len(o.s) != n || n > 16384 && o != (joined{e: api.ErrLimit}) {
					t.Errorf("P8.3: Join of %d tokens with %d bytes in all returns %.100v and not %.100v", len(l), n, o, want)
				}
			}
			for _, l := range [][]api.Token{append(slices.Clone(l), w("A", 0)), append(list(end(0)), l...)} {
				if o := join(l); o != (joined{e: api.ErrForm}) {
					t.Errorf("P8.3: Join of %d bytes in all and a token that is not proper returns %.100v", n, o)
				}
			}
		}
	}
}

// Every piece is tried as the text of each kind, alone and beside others.
func TestJoinOfPieces(t *testing.T) {
	proper := 0
	texts := slices.Concat(pieces(), nameTexts(), shortSources(3, "a1.\"# \n=<;$"))
	for _, s := range texts {
		for kind := -1; kind <= 8; kind++ {
			p := api.Token{Kind: kind, Text: s, At: len(s) - 3}
			for _, l := range [][]api.Token{list(p), list(w("a", 0), p, end(9))} {
				o, want := join(l), wantedJoin(l)
				if o != want {
					t.Errorf("P8.3: Join of %.200v returns %.200v and not %.200v", l, o, want)
				}
				if want.e == api.OK {
					proper++
				}
			}
		}
	}
	if proper < 5000 {
		t.Errorf("P8.3: only %d lists of tokens are proper", proper)
	}
}

func TestOffsets(t *testing.T) {
	for _, s := range append(chanceSources(20000), shortSources(4, "a1.\"# \n=$")...) {
		o := tokens(s)
		before := -1
		for _, p := range o.l {
			part := p.Text
			if p.Kind == api.TokText {
				part = `"` + part + `"`
			}
			if p.At <= before || p.At > len(s) || !strings.HasPrefix(s[p.At:], part) {
				t.Errorf("P8.4: the tokens of %q are %v", s, o.l)
			}
			before = p.At
		}
		if last := o.l[len(o.l)-1]; last != end(len(s)) {
			t.Errorf("P8.4: the last token of %q is %v", s, last)
		}
		before = -1
		for _, p := range o.bad {
			if p.At <= before || p.At >= len(s) {
				t.Errorf("P8.4: the problems of %q are %v", s, o.bad)
			}
			before = p.At
		}
	}
}

// withoutOffsets returns l with all offsets 0.
func withoutOffsets(l []api.Token) (m []api.Token) {
	for _, p := range l {
		m = append(m, api.Token{Kind: p.Kind, Text: p.Text})
	}
	return m
}

func TestBlanksBetweenTokens(t *testing.T) {
	r := random()
	gaps := []string{" ", "\t", "\n", "\r", "  ", " \r\n\t", "#\n", "# a $ 1 \"\n", "\n#b\n \t#\n", "#" + letters(99) + "\n", " #\r\n"}
	parts := []string{"a", "if", letters(24), "b_9", "0", "12", "1152921504606846976", "1.5", "0.123456", `""`, `"a # b"`, `"a"`}
	parts = append(parts, signs...)
	for n := range 5000 {
		var plain, gapped strings.Builder
		if n%2 == 0 {
			gapped.WriteString(gaps[r.IntN(len(gaps))])
		}
		for range n % 12 {
			part := parts[r.IntN(len(parts))]
			plain.WriteString(part + " ")
			gapped.WriteString(part + gaps[r.IntN(len(gaps))])
		}
		o, p := tokens(plain.String()), tokens(gapped.String())
		if len(o.l) != n%12+1 || len(o.bad)+len(p.bad) > 0 || !slices.Equal(withoutOffsets(o.l), withoutOffsets(p.l)) {
			t.Errorf("P8.4: Tokens of %q is %v, and of %q %v", plain.String(), o, gapped.String(), p)
		}
	}
	// Where no blanks are necessary, they make no difference either.
	for _, s := range []string{"x==-1;", "sum(clicks,amount,sliding 5where amount<=10)", `@user"u7"!=@user"u8"`, "[eur*h^-1]", "12ab", `1"2"3.5"a"b`} {
		o := tokens(s)
		for _, p := range o.l {
			gapped := s[:p.At] + "#\n\t " + s[p.At:]
			if q := tokens(gapped); len(q.bad) > 0 || !slices.Equal(withoutOffsets(o.l), withoutOffsets(q.l)) {
				t.Errorf("P8.4: Tokens of %q is %v, and of %q %v", s, o, gapped, q)
			}
		}
	}
}

// moved returns tokens and problems at offsets that are greater by n.
func moved(l []api.Token, bad []api.Problem, n int) ([]api.Token, []api.Problem) {
	l, bad = slices.Clone(l), slices.Clone(bad)
	for i := range l {
		l[i].At += n
	}
	for i := range bad {
		bad[i].At += n
	}
	return l, bad
}

func TestJoinedSources(t *testing.T) {
	sources := slices.Concat(chanceSources(300), pieces(), []string{"", "a #", "a # b", `"a`, `"a # b`, "#", "$", `"`, `a"b" # "`, "1.", "<", "a", "\n", "# a\n", letters(24), "12"})
	for k, a := range sources {
		for _, b := range append(sources[k%17:][:60], sources[len(sources)-16:]...) {
			o, first, second := tokens(a+"\n"+b), tokens(a), tokens(b)
			l, bad := moved(second.l, second.bad, len(a)+1)
			l, bad = append(first.l[:len(first.l)-1], l...), append(first.bad, bad...)
			if !o.is(outcome{l: l, bad: bad[:min(len(bad), 32)]}) {
				t.Errorf("P8.4: Tokens of %q is %v and not %v %v", a+"\n"+b, o, l, bad)
			}
		}
	}
	for _, a := range []string{letters(24), "a # b", `"a`, "$", "#", strings.Repeat("# ;", 4000), strings.Repeat("; ", 5000)} {
		b := strings.Repeat(";", 16384-len(a)-1)
		o := tokens(a + "\n" + b)
		l, _ := moved(tokens(b).l, nil, len(a)+1)
		first := tokens(a)
		if !o.is(outcome{l: append(first.l[:len(first.l)-1], l...), bad: first.bad}) {
			t.Errorf("P8.4: Tokens of %.100q, a byte 10 and semicolons is %.100v", a, o)
		}
	}
}

func TestTokensUndoesJoin(t *testing.T) {
	r := random()
	all := list()
	for _, s := range pieces() {
		all = append(all, tokens(s).l[:len(tokens(s).l)-1]...)
	}
	for _, c := range "abcdefghijklmnopqrstuvwxyz" {
		all = append(all, w(string(c), 0), w(string(c)+"_9", 3), x(string(c), 1), i("12", -4), d("3.25", 7))
	}
	for n := range 5000 {
		var l []api.Token
		for range n % 40 {
			l = append(l, all[r.IntN(len(all))])
		}
		for _, whole := range [][]api.Token{l, append(slices.Clone(l), end(n))} {
			b, e := Join(whole)
			back, bad, f := Tokens(b)
			if e != api.OK || f != api.OK || len(bad) > 0 || !slices.Equal(withoutOffsets(back), append(withoutOffsets(l), end(0))) {
				t.Errorf("P8.4: Join of %v is %q and %d, whose tokens are %v %v", whole, b, e, back, bad)
			}
		}
	}
	for _, s := range chanceSources(5000) {
		o := tokens(s)
		b, e := Join(o.l)
		if back := tokens(string(b)); e != api.OK || len(back.bad) > 0 || !slices.Equal(withoutOffsets(back.l), withoutOffsets(o.l)) {
			t.Errorf("P8.4: Join of the tokens of %q is %q and %d, whose tokens are %v", s, b, e, back)
		}
	}
}

// numbers returns integers that are not negative: around 0, the powers of two and of ten, and at the limit.
func numbers() (l []int) {
	for n := range 200 {
		l = append(l, n, 1<<60-n, 1000000+n, n*1000000, n*1234567)
	}
	for n := range 60 {
		l = append(l, 1<<n, 1<<n-1, 1<<n+1)
	}
	for n := 1; n < 1<<59; n *= 10 {
		l = append(l, n, n-1, n+1, n/9*7)
	}
	return l
}

func TestFormattedValues(t *testing.T) {
	for _, n := range numbers() {
		s := values.Format(api.Value{Kind: api.IntV, N: n})
		if o := tokens(s); !o.is(outcome{l: list(i(s, 0), end(len(s)))}) {
			t.Errorf("P8.4: Tokens of %q is %v", s, o)
		}
		s = values.Format(api.Value{Kind: api.DecV, N: n})
		if o := tokens(s); !o.is(outcome{l: list(d(s, 0), end(len(s)))}) {
			t.Errorf("P8.4: Tokens of %q is %v", s, o)
		}
		if n == 0 {
			continue
		}
		s = values.Format(api.Value{Kind: api.IntV, N: -n})
		if o := tokens(s); !o.is(outcome{l: list(g("-", 0), i(s[1:], 1), end(len(s)))}) {
			t.Errorf("P8.4: Tokens of %q is %v", s, o)
		}
		s = values.Format(api.Value{Kind: api.DecV, N: -n})
		if o := tokens(s); !o.is(outcome{l: list(g("-", 0), d(s[1:], 1), end(len(s)))}) {
			t.Errorf("P8.4: Tokens of %q is %v", s, o)
		}
	}
	texts := []string{"", letters(64), printable[:64], printable[64:], "a b", "#", "# a", "1", "if", "==", strings.Repeat(" ", 64), strings.Repeat("~", 64)}
	for _, c := range []byte(printable) {
		texts = append(texts, string([]byte{c}), string([]byte{c, c}), letters(63)+string([]byte{c}))
	}
	for _, inner := range texts {
		s := values.Format(api.Value{Kind: api.TextV, S: inner})
		if o := tokens(s); s == "" || !o.is(outcome{l: list(x(inner, 0), end(len(s)))}) {
			t.Errorf("P8.4: Tokens of %q is %v", s, o)
		}
	}
}

// Neither are arguments changed nor do results change with them or with one another.
func TestPurity(t *testing.T) {
	for _, s := range append(chanceSources(2000), strings.Repeat("$ a ", 40)) {
		src := []byte(s + "spare")
		l, bad, e := Tokens(src[:len(s)])
		if string(src) != s+"spare" {
			t.Errorf("P8.1: Tokens of %q changes its argument", s)
		}
		for i := range src {
			src[i] = '%'
		}
		if o := (outcome{l, bad, e}); !o.is(wantedTokens(s)) {
			t.Errorf("P8.1: the result of Tokens of %q changes with its argument", s)
		}
		kept := slices.Clone(l)
		b, _ := Join(l)
		want := bytes.Clone(b)
		if !slices.Equal(l, kept) {
			t.Errorf("P8.3: Join of %v changes its argument", kept)
		}
		for i := range l {
			l[i] = g("%", 5)
		}
		c, _ := Join(kept)
		for i := range c {
			c[i] = '%'
		}
		if !bytes.Equal(b, want) || !tokens(s).is(wantedTokens(s)) {
			t.Errorf("P8.3: the result of Join of %v changes, or that of Tokens of %q", kept, s)
		}
	}
}

// All calls return quickly, also for arguments that are far beyond the limits.
func TestLongArguments(t *testing.T) {
	for _, unit := range []string{"a", "1", "0", `"`, "#", " ", "$", "=", "1.", "\xff", "\n"} {
		s := strings.Repeat(unit, 1<<20)
		if Name(s) || Keyword(s) {
			t.Errorf("P8.2: %d times %q is a name or a keyword", 1<<20, unit)
		}
		for kind := range 8 {
			want := joined{e: api.ErrForm}
			if unit == "0" && kind == api.TokInt {
				want.e = api.ErrLimit
			}
			if o := join(list(api.Token{Kind: kind, Text: s})); o != want {
				t.Errorf("P8.3: Join of the kind %d and %d times %q returns %.100v", kind, 1<<20, unit, o)
			}
		}
	}
	for _, p := range []api.Token{w("a", 0), end(0), {}, g("$", 0)} {
		want := api.ErrForm
		if p.Text == "a" {
			want = api.ErrLimit
		}
		if b, e := Join(slices.Repeat(list(p), 1<<18)); len(b) > 0 || e != want {
			t.Errorf("P8.3: Join of many times %v returns %d bytes and %d", p, len(b), e)
		}
	}
}
