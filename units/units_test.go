package units

import (
	"fmt"
	"math"
	"math/big"
	"math/rand/v2"
	"regexp"
	"slices"
	"sort"
	"strings"
	"testing"

	"asof/api"
)

// of returns the list of the factors whose names and exponents follow one another.
func of(parts ...any) (l []api.Factor) {
	for i := 0; i+1 < len(parts); i += 2 {
		l = append(l, api.Factor{Name: parts[i].(string), Exp: parts[i+1].(int)})
	}
	return l
}

// letters returns n letters a.
func letters(n int) string { return strings.Repeat("a", n) }

// random returns a source of the same numbers in each run.
func random() *rand.Rand { return rand.New(rand.NewPCG(7, 21)) }

// names returns words and what is none: of all lengths around the limit, and with each byte at each end, in the middle and at the last place that the limit leaves.
func names() (l []string) {
	for n := range 30 {
		l = append(l, letters(n), letters(n)+"z", strings.Repeat("z", n), "b"+strings.Repeat("_", n), "c"+strings.Repeat("9", n))
	}
	for c := range 256 {
		b := string([]byte{byte(c)})
		l = append(l, b, b+"a", "a"+b, "a"+b+"a", letters(23)+b, letters(24)+b, b+letters(23), b+letters(24), b+b)
	}
	l = append(l, "table", "of", "if", "then", "else", "and", "or", "not", "null", "true", "keep", "int", "key", "count", "sliding", "decay")
	l = append(l, "größe", "µm", "km_per_h2", "m^2", "m*s", "m s", letters(1000), letters(1<<16))
	slices.Sort(l)
	return slices.Compact(l)
}

// exponents returns exponents, in range or not, also what is in range when it is cut.
func exponents() (l []int) {
	for n := -20; n <= 20; n++ {
		l = append(l, n, 1<<8+n, 1<<32+n, -1<<32+n)
	}
	return append(l, math.MinInt, math.MinInt+1, math.MinInt+8, math.MaxInt, math.MaxInt-1, math.MaxInt-7, 1<<62, -1<<62)
}

// few returns factors, valid or not, for lists of all combinations.
func few() (l []api.Factor) {
	for _, name := range []string{"", "a", "b", "c", "M"} {
		for _, exp := range []int{-9, 0, 1, 8} {
			l = append(l, api.Factor{Name: name, Exp: exp})
		}
	}
	return l
}

// many returns lists, valid units or not: each factor alone and with others, all lists of at most three of few, and longer ones by chance.
func many() (l [][]api.Factor) {
	for _, name := range names() {
		l = append(l, of(name, 1), of(name, 0), of("b", 2, name, -8), of(name, 9, "b", 1))
	}
	for _, exp := range exponents() {
		l = append(l, of("m", exp), of("a", 1, "m", exp), of("m", exp, "s", -1), of("m", exp, "kg", 2))
	}
	lists := [][]api.Factor{nil}
	for range 3 {
		l = append(l, lists...)
		lists = longer(lists, few())
	}
	l = append(l, lists...)
	return append(l, chanceLists(20000)...)
}

// longer returns the lists that begin with one of l and go on with one factor of more.
func longer(l [][]api.Factor, more []api.Factor) (longer [][]api.Factor) {
	for _, first := range l {
		for _, f := range more {
			longer = append(longer, append(slices.Clone(first), f))
		}
	}
	return longer
}

// chanceLists returns n lists of 0 to 7 factors whose names often increase and whose exponents are often in range.
func chanceLists(n int) (l [][]api.Factor) {
	r := random()
	words := []string{"a", "a0", "a_", "aa", "b", "eur", "h", "kg", "m", "s", "z9_"}
	others := []string{"", "A", "0", "_", "a-b", "a*b", "m^2", "mÄ", "a ", letters(25), letters(23) + "~"}
	exps := exponents()
	for i := range n {
		var next []api.Factor
		for range i % 8 {
			f := api.Factor{Name: words[r.IntN(len(words))], Exp: r.IntN(8) + 1}
			if r.IntN(2) == 0 {
				f.Exp = -f.Exp
			}
			switch r.IntN(40) {
			case 0:
				f.Name = others[r.IntN(len(others))]
			case 1:
				f.Exp = exps[r.IntN(len(exps))]
			}
			next = append(next, f)
		}
		if r.IntN(4) > 0 {
			slices.SortFunc(next, func(a, b api.Factor) int { return strings.Compare(a.Name, b.Name) })
		}
		if r.IntN(4) > 0 {
			next = slices.CompactFunc(next, func(a, b api.Factor) bool { return a.Name == b.Name })
		}
		l = append(l, next)
	}
	return l
}

// validUnits returns all units of up to three base units that have one of these exponents.
func validUnits(exps ...int) (l [][]api.Factor) {
	l = [][]api.Factor{nil}
	for _, name := range []string{"a1", "a_", "m"} {
		for _, u := range slices.Clone(l) {
			for _, exp := range exps {
				l = append(l, append(slices.Clone(u), api.Factor{Name: name, Exp: exp}))
			}
		}
	}
	return l
}

// inRange returns the exponents of valid units.
func inRange() []int {
	return []int{-8, -7, -6, -5, -4, -3, -2, -1, 1, 2, 3, 4, 5, 6, 7, 8}
}

// outcome is what Normal, Times, Over and Parse return.
type outcome struct {
	u []api.Factor
	e api.Errno
}

// is says whether both outcomes are the same.
func (o outcome) is(p outcome) bool { return o.e == p.e && slices.Equal(o.u, p.u) }

// normal returns what Normal returns.
func normal(l []api.Factor) outcome {
	u, e := Normal(l)
	return outcome{u, e}
}

// times returns what Times returns.
func times(a, b []api.Factor) outcome {
	u, e := Times(a, b)
	return outcome{u, e}
}

// over returns what Over returns.
func over(a, b []api.Factor) outcome {
	u, e := Over(a, b)
	return outcome{u, e}
}

// parse returns what Parse returns.
func parse(s string) outcome {
	u, e := Parse(s)
	return outcome{u, e}
}

// word matches the words.
var word = regexp.MustCompile(`^[a-z][a-z0-9_]{0,23}$`)

// wantedCheck returns what the chapter says about Check.
func wantedCheck(u []api.Factor) api.Errno {
	if len(u) >= 5 {
		return 2
	}
	for i, f := range u {
		switch {
		case !word.MatchString(f.Name):
			return 1
		case !slices.Contains(inRange(), f.Exp):
			return 70
		case i > 0 && !sort.StringsAreSorted([]string{u[i-1].Name, f.Name}), i > 0 && u[i-1].Name == f.Name:
			return 3
		}
	}
	return 0
}

// wantedNormal returns what the chapter says about Normal.
func wantedNormal(l []api.Factor) (o outcome) {
	sums := map[string]*big.Int{}
	var found []string
	for _, f := range l {
		if !word.MatchString(f.Name) {
			return outcome{e: 1}
		}
		if sums[f.Name] == nil {
			sums[f.Name] = new(big.Int)
			found = append(found, f.Name)
		}
		sums[f.Name].Add(sums[f.Name], big.NewInt(int64(f.Exp)))
	}
	sort.Strings(found)
	for _, name := range found {
		switch sum := sums[name]; {
		case sum.CmpAbs(big.NewInt(8)) > 0:
			return outcome{e: 70}
		case sum.Sign() != 0:
			o.u = append(o.u, api.Factor{Name: name, Exp: int(sum.Int64())})
		}
	}
	if len(o.u) > 4 {
		return outcome{e: 2}
	}
	return o
}

// wantedProduct returns what the chapter says about Times, and about Over if the exponents of b count with the opposite sign.
func wantedProduct(a, b []api.Factor, sign int) outcome {
	if e := wantedCheck(a); e != 0 {
		return outcome{e: e}
	}
	if e := wantedCheck(b); e != 0 {
		return outcome{e: e}
	}
	all := slices.Clone(a)
	for _, f := range b {
		all = append(all, api.Factor{Name: f.Name, Exp: sign * f.Exp})
	}
	return wantedNormal(all)
}

// wantedFormat returns what the chapter says about Format.
func wantedFormat(u []api.Factor) (s string) {
	for i, f := range u {
		if i > 0 {
			s += "*"
		}
		s += f.Name
		if f.Exp != 1 {
			s += fmt.Sprintf("^%d", f.Exp)
		}
	}
	return s
}

var (
	// unitText matches the texts of units whose names need not increase; F stands for a factor.
	unitText = regexp.MustCompile(strings.ReplaceAll(`^(F(\*F){0,3})?$`, "F", `[a-z][a-z0-9_]{0,23}(\^(-[1-8]|[2-8]))?`))
	// factorText matches the text of one factor in the text of a unit.
	factorText = regexp.MustCompile(`([a-z0-9_]+)(?:\^(-?)([1-8]))?`)
)

// wantedParse returns what the chapter says about Parse.
func wantedParse(s string) (o outcome) {
	if !unitText.MatchString(s) {
		return outcome{e: 3}
	}
	for _, m := range factorText.FindAllStringSubmatch(s, -1) {
		f := api.Factor{Name: m[1], Exp: 1}
		if m[3] != "" {
			f.Exp = strings.Index("012345678", m[3])
		}
		if m[2] != "" {
			f.Exp = -f.Exp
		}
		if n := len(o.u); n > 0 && o.u[n-1].Name >= f.Name {
			return outcome{e: 3}
		}
		o.u = append(o.u, f)
	}
	return o
}

func TestCheckOfExamples(t *testing.T) {
	for _, x := range []struct {
		u    []api.Factor
		want api.Errno
	}{
		{of("s", 1, "m", 1), api.ErrForm},
		{of("m", 0), api.ErrUnit},
		{of("M", 1), api.ErrArg},
		{nil, api.OK},
		{[]api.Factor{}, api.OK},
		{of("m", 1), api.OK},
		{of("m", 1, "s", -1), api.OK},
		{of("eur", 8, "m", 1, "s", -8), api.OK},
		{of("eur", 1, "kg", 2, "m", 1, "s", -2), api.OK},
		{of("eur", 1, "kg", 2, "m", 1, "s", -2, "x", 1), api.ErrLimit},
		{of("x", 1, "x", 0, "", 1, "M", 9, "a", 1), api.ErrLimit},
		{slices.Repeat(of("m", 1), 1000), api.ErrLimit},
		{of("", 1), api.ErrArg},
		{of(letters(24), 1), api.OK},
		{of(letters(25), 1), api.ErrArg},
		{of("1m", 1), api.ErrArg},
		{of("_m", 1), api.ErrArg},
		{of("m_1", 1), api.OK},
		{of("m-1", 1), api.ErrArg},
		{of("m 1", 1), api.ErrArg},
		{of("mM", 1), api.ErrArg},
		{of("mä", 1), api.ErrArg},
		{of("m\x00", 1), api.ErrArg},
		{of("table", 1), api.OK},
		{of("if", 1, "of", 1), api.OK},
		{of("m", -1), api.OK},
		{of("m", 8), api.OK},
		{of("m", -8), api.OK},
		{of("m", 9), api.ErrUnit},
		{of("m", -9), api.ErrUnit},
		{of("m", math.MaxInt), api.ErrUnit},
		{of("m", math.MinInt), api.ErrUnit},
		{of("m", 1, "m", 1), api.ErrForm},
		{of("m", 1, "m", -1), api.ErrForm},
		{of("a", 1, "c", 1, "b", 1), api.ErrForm},
		{of("b", 1, "c", 1, "b", 1), api.ErrForm},
		{of("a", 1, "aa", 1, "ab", 1, "b", 1), api.OK},
		{of("aa", 1, "a", 1), api.ErrForm},
		{of("m", 1, "m1", 1, "m_", 1, "ma", 1), api.OK},
		{of("M", 0), api.ErrArg},
		{of("", 9), api.ErrArg},
		{of("s", 1, "m", 0), api.ErrUnit},
		{of("s", 1, "m", 9), api.ErrUnit},
		{of("s", 1, "M", 0), api.ErrArg},
		{of("s", 1, "M", 1), api.ErrArg},
		{of("m", 0, "M", 1), api.ErrUnit},
		{of("M", 1, "m", 0), api.ErrArg},
		{of("s", 1, "m", 1, "M", 1), api.ErrForm},
		{of("s", 1, "m", 1, "a", 0), api.ErrForm},
		{of("m", 9, "a", 1), api.ErrUnit},
		{of("a", 1, "b", 1, "c", 1, "c", 1), api.ErrForm},
		{of("a", 1, "b", 1, "c", 1, "d", 0), api.ErrUnit},
		{of("a", 1, "b", 1, "c", 1, "", 1), api.ErrArg},
	} {
		if e := Check(x.u); e != x.want {
			t.Errorf("P7.1: Check of %.100v returns %d and not %d", x.u, e, x.want)
		}
	}
}

func TestCheck(t *testing.T) {
	found := map[api.Errno]int{}
	for _, u := range many() {
		want := wantedCheck(u)
		found[want]++
		if e := Check(u); e != want {
			t.Errorf("P7.1: Check of %.100v returns %d and not %d", u, e, want)
		}
	}
	for _, e := range []api.Errno{api.OK, api.ErrArg, api.ErrLimit, api.ErrUnit, api.ErrForm} {
		if found[e] < 500 {
			t.Errorf("P7.1: only %d lists lead to %d", found[e], e)
		}
	}
}

func TestNormalOfExamples(t *testing.T) {
	const top, bottom = math.MaxInt, math.MinInt
	for _, x := range []struct {
		l, want []api.Factor
	}{
		{of("s", 1, "m", 1, "s", 1), of("m", 1, "s", 2)},
		{nil, nil},
		{[]api.Factor{}, nil},
		{of("m", 1), of("m", 1)},
		{of("m", 0), nil},
		{of("m", 0, "s", 1, "m", 0), of("s", 1)},
		{of("m", 8), of("m", 8)},
		{of("m", -8), of("m", -8)},
		{of("m", 3, "m", -3), nil},
		{of("m", 3, "s", 1, "m", -3), of("s", 1)},
		{of("m", 9, "m", -1), of("m", 8)},
		{of("m", -9, "m", 1), of("m", -8)},
		{of("m", 100, "s", -50, "m", -98, "s", 49), of("m", 2, "s", -1)},
		{of("m", top, "m", -top), nil},
		{of("m", top, "m", bottom), of("m", -1)},
		{of("m", bottom, "m", top, "m", 2), of("m", 1)},
		{of("m", top, "m", top, "m", bottom, "m", bottom, "m", 3), of("m", 1)},
		{of("m", bottom, "m", bottom, "m", top, "m", top), of("m", -2)},
		{of("m", bottom, "m", -8, "m", 1<<62, "m", 1<<62), of("m", -8)},
		{slices.Repeat(of("m", top, "s", bottom, "m", -top, "s", top), 8), of("s", -8)},
		{slices.Repeat(of("m", 1, "s", -1), 8), of("m", 8, "s", -8)},
		{slices.Repeat(of("m", 1, "s", 5, "m", -1, "s", -5), 10000), nil},
		{slices.Concat(slices.Repeat(of("m", top), 10000), slices.Repeat(of("m", -top), 10000), of("m", 7)), of("m", 7)},
		{of("d", 1, "c", 1, "b", 1, "a", 1), of("a", 1, "b", 1, "c", 1, "d", 1)},
		{of("d", 1, "c", 1, "b", 1, "a", 1, "e", 0), of("a", 1, "b", 1, "c", 1, "d", 1)},
		{of("e", 2, "d", 1, "c", 1, "b", 1, "a", 1, "e", -2), of("a", 1, "b", 1, "c", 1, "d", 1)},
		{of("f", 2, "e", 2, "d", 1, "c", 1, "b", 1, "a", 1, "e", -2, "b", -1, "f", -1), of("a", 1, "c", 1, "d", 1, "f", 1)},
		{of("aa", 1, "a_", 1, "a0", 1, "a", 1), of("a", 1, "a0", 1, "a_", 1, "aa", 1)},
		{of("table", 1, letters(24), 1), of(letters(24), 1, "table", 1)},
	} {
		if o := normal(x.l); !o.is(outcome{u: x.want}) {
			t.Errorf("P7.1: Normal of %.100v is %v and not %v", x.l, o, x.want)
		}
	}
}

func TestErrorsOfNormal(t *testing.T) {
	const top, bottom = math.MaxInt, math.MinInt
	for _, x := range []struct {
		l    []api.Factor
		want api.Errno
	}{
		{of("", 1), api.ErrArg},
		{of("M", 0), api.ErrArg},
		{of("m", 1, letters(25), 1), api.ErrArg},
		{of("m*s", 1), api.ErrArg},
		{of("M", 1, "M", -1), api.ErrArg},
		{of("m", 9), api.ErrUnit},
		{of("m", -9), api.ErrUnit},
		{of("m", 8, "m", 1), api.ErrUnit},
		{of("m", -8, "s", 1, "m", -1), api.ErrUnit},
		{of("m", top), api.ErrUnit},
		{of("m", bottom), api.ErrUnit},
		{of("m", top, "m", 1), api.ErrUnit},
		{of("m", bottom, "m", -1), api.ErrUnit},
		{of("m", bottom, "m", bottom), api.ErrUnit},
		{of("m", top, "m", top, "m", 2), api.ErrUnit},
		{of("m", top, "m", top, "m", 3), api.ErrUnit},
		{of("m", bottom, "m", bottom, "m", 1), api.ErrUnit},
		{slices.Repeat(of("m", top), 2000), api.ErrUnit},
		{slices.Repeat(of("m", bottom), 2000), api.ErrUnit},
		{slices.Repeat(of("m", 1<<62), 4), api.ErrUnit},
		{slices.Repeat(of("m", top, "s", bottom, "m", -top, "s", top), 9), api.ErrUnit},
		{slices.Repeat(of("m", 1, "m", 1, "m", -1), 9), api.ErrUnit},
		{of("a", 1, "b", 1, "c", 1, "d", 1, "e", 1), api.ErrLimit},
		{of("e", 1, "d", 1, "c", 1, "b", 1, "a", 1, "f", 0), api.ErrLimit},
		{of("a", 1, "b", 1, "c", 1, "d", 1, "e", 8, "e", -7), api.ErrLimit},
		{of("m", 9, "M", 1), api.ErrArg},
		{of("M", 1, "m", 9), api.ErrArg},
		{of("m", 9, "M", 0), api.ErrArg},
		{of("a", 1, "b", 1, "c", 1, "d", 1, "e", 1, "", 1), api.ErrArg},
		{of("a", 1, "b", 1, "c", 1, "d", 1, "e", 9, "", 1), api.ErrArg},
		{of("a", 9, "b", 1, "c", 1, "d", 1, "e", 1), api.ErrUnit},
		{of("a", 1, "b", 1, "c", 1, "d", 1, "e", 9), api.ErrUnit},
		{of("a", 1, "b", 1, "c", 1, "d", 1, "e", 1, "f", 8, "f", 1), api.ErrUnit},
	} {
		if o := normal(x.l); !o.is(outcome{e: x.want}) {
			t.Errorf("P7.1: Normal of %.100v is %v and not the error %d", x.l, o, x.want)
		}
	}
}

func TestNormal(t *testing.T) {
	found := map[api.Errno]int{}
	for _, l := range many() {
		want := wantedNormal(l)
		found[want.e]++
		if o := normal(l); !o.is(want) {
			t.Errorf("P7.1: Normal of %.100v is %v and not %v", l, o, want)
		}
	}
	for _, e := range []api.Errno{api.OK, api.ErrArg, api.ErrLimit, api.ErrUnit} {
		if found[e] < 100 {
			t.Errorf("P7.1: only %d lists lead to %d", found[e], e)
		}
	}
}

func TestNormalOfManyNames(t *testing.T) {
	var l []api.Factor
	for n := range 30000 {
		l = append(l, api.Factor{Name: fmt.Sprintf("n%d", n), Exp: n%3 + 1})
	}
	if o := normal(l); !o.is(outcome{e: api.ErrLimit}) {
		t.Errorf("P7.1: Normal of %d names is %.100v", len(l), o)
	}
	for n := range 30000 - 3 {
		l = append(l, api.Factor{Name: l[n].Name, Exp: -l[n].Exp})
	}
	if o := normal(l); !o.is(outcome{u: of("n29997", 1, "n29998", 2, "n29999", 3)}) {
		t.Errorf("P7.1: Normal of %d names that add up to 0, and three, is %.100v", len(l), o)
	}
}

func TestProductsOfExamples(t *testing.T) {
	bad, odd, big, back := of("M", 1), of("m", 0), of("a", 1, "b", 1, "c", 1, "d", 1, "e", 1), of("s", 1, "m", 1)
	full := of("a", 1, "b", -2, "c", 3, "d", -4)
	for _, x := range []struct {
		a, b, product, quotient []api.Factor
		e, f                    api.Errno // of the product, of the quotient
	}{
		{of("m", 1), of("s", -1), of("m", 1, "s", -1), of("m", 1, "s", 1), 0, 0},
		{of("m", 1, "s", -1), of("s", 1), of("m", 1), of("m", 1, "s", -2), 0, 0},
		{of("m", 1), of("m", 1), of("m", 2), nil, 0, 0},
		{of("m", 8), of("m", 1), nil, of("m", 7), api.ErrUnit, 0},
		{of("m", 8), of("m", -1), of("m", 7), nil, 0, api.ErrUnit},
		{of("m", -8), of("m", 1), of("m", -7), nil, 0, api.ErrUnit},
		{of("m", 8), of("m", -8), nil, nil, 0, api.ErrUnit},
		{of("m", 4), of("m", 4), of("m", 8), nil, 0, 0},
		{nil, nil, nil, nil, 0, 0},
		{nil, of("s", 2), of("s", 2), of("s", -2), 0, 0},
		{of("s", 2), []api.Factor{}, of("s", 2), of("s", 2), 0, 0},
		{of("s", 1), of("m", 1), of("m", 1, "s", 1), of("m", -1, "s", 1), 0, 0},
		{full, full, of("a", 2, "b", -4, "c", 6, "d", -8), nil, 0, 0},
		{full, of("a", 1, "e", 1), nil, of("b", -2, "c", 3, "d", -4, "e", -1), api.ErrLimit, 0},
		{full, of("a", -1, "e", 1), of("b", -2, "c", 3, "d", -4, "e", 1), nil, 0, api.ErrLimit},
		{full, of("e", 1), nil, nil, api.ErrLimit, api.ErrLimit},
		{full, of("d", 5, "e", 1), nil, nil, api.ErrLimit, api.ErrUnit},
		{full, of("d", -5, "e", 1), nil, nil, api.ErrUnit, api.ErrLimit},
		{bad, of("m", 1), nil, nil, api.ErrArg, api.ErrArg},
		{odd, of("m", 1), nil, nil, api.ErrUnit, api.ErrUnit},
		{big, of("m", 1), nil, nil, api.ErrLimit, api.ErrLimit},
		{back, of("m", 1), nil, nil, api.ErrForm, api.ErrForm},
		{of("m", 1), bad, nil, nil, api.ErrArg, api.ErrArg},
		{of("m", 1), odd, nil, nil, api.ErrUnit, api.ErrUnit},
		{of("m", 1), big, nil, nil, api.ErrLimit, api.ErrLimit},
		{of("m", 1), back, nil, nil, api.ErrForm, api.ErrForm},
		{nil, of("m", 9), nil, nil, api.ErrUnit, api.ErrUnit},
		{of("m", 9), nil, nil, nil, api.ErrUnit, api.ErrUnit},
		{of("m", math.MinInt), of("m", math.MaxInt), nil, nil, api.ErrUnit, api.ErrUnit},
		{of("m", 1), of("m", math.MinInt), nil, nil, api.ErrUnit, api.ErrUnit},
		{back, bad, nil, nil, api.ErrForm, api.ErrForm},
		{bad, back, nil, nil, api.ErrArg, api.ErrArg},
		{big, odd, nil, nil, api.ErrLimit, api.ErrLimit},
		{odd, big, nil, nil, api.ErrUnit, api.ErrUnit},
	} {
		if o := times(x.a, x.b); !o.is(outcome{x.product, x.e}) {
			t.Errorf("P7.1: Times of %v and %v is %v and not %v", x.a, x.b, o, outcome{x.product, x.e})
		}
		if o := over(x.a, x.b); !o.is(outcome{x.quotient, x.f}) {
			t.Errorf("P7.1: Over of %v and %v is %v and not %v", x.a, x.b, o, outcome{x.quotient, x.f})
		}
	}
}

// somePairs returns pairs of lists, valid or not.
func somePairs() (l [][2][]api.Factor) {
	lists := append(chanceLists(300), validUnits(-8, -1, 1, 8)...)
	for _, f := range few() {
		lists = append(lists, []api.Factor{f})
	}
	for _, a := range lists {
		for _, b := range lists {
			l = append(l, [2][]api.Factor{a, b})
		}
	}
	return l
}

func TestProducts(t *testing.T) {
	products, quotients := map[api.Errno]int{}, map[api.Errno]int{}
	for _, p := range somePairs() {
		product, quotient := wantedProduct(p[0], p[1], 1), wantedProduct(p[0], p[1], -1)
		products[product.e]++
		quotients[quotient.e]++
		if o := times(p[0], p[1]); !o.is(product) {
			t.Errorf("P7.1: Times of %v and %v is %v and not %v", p[0], p[1], o, product)
		}
		if o := over(p[0], p[1]); !o.is(quotient) {
			t.Errorf("P7.1: Over of %v and %v is %v and not %v", p[0], p[1], o, quotient)
		}
	}
	for _, e := range []api.Errno{api.OK, api.ErrArg, api.ErrLimit, api.ErrUnit, api.ErrForm} {
		if products[e] < 1000 || quotients[e] < 1000 {
			t.Errorf("P7.1: only %d products and %d quotients lead to %d", products[e], quotients[e], e)
		}
	}
}

func TestSame(t *testing.T) {
	lists := [][]api.Factor{
		nil, of("m", 1), of("m", 2), of("m", -1), of("n", 1), of("M", 1), of("", 0), of("", 1), of("m", 0),
		of("m", 1, "s", 1), of("s", 1, "m", 1), of("m", 1, "m", 1), of("m", 1, "s", 2), of("m", 1, "t", 1), of("n", 1, "s", 1),
		of("m", 1, "s", 1, "t", 1), of("m", math.MinInt), of("m", math.MaxInt), of("m", 1, "s", 1, "t", 1, "u", 1, "v", 1), slices.Repeat(of("m", 1), 50),
	}
	for i, a := range lists {
		for j, b := range lists {
			if ok := Same(slices.Clone(a), b); ok != (i == j) {
				t.Errorf("P7.1: Same of %v and %v is %t", a, b, ok)
			}
		}
	}
	if !Same(nil, []api.Factor{}) || !Same([]api.Factor{}, nil) || !Same([]api.Factor{}, []api.Factor{}) || !Same(nil, nil) {
		t.Errorf("P7.1: Same of empty lists is false")
	}
	for _, p := range somePairs() {
		if ok := Same(p[0], p[1]); ok != (fmt.Sprint(p[0]) == fmt.Sprint(p[1])) {
			t.Errorf("P7.1: Same of %v and %v is %t", p[0], p[1], ok)
		}
	}
}

func TestFormatOfExamples(t *testing.T) {
	for _, x := range []struct {
		u    []api.Factor
		want string
	}{
		{nil, ""},
		{[]api.Factor{}, ""},
		{of("m", 1), "m"},
		{of("m", -1), "m^-1"},
		{of("m", 2), "m^2"},
		{of("eur", 1, "h", -1), "eur*h^-1"},
		{of("a", 8, "b", -8, "c", 1, "d", -2), "a^8*b^-8*c*d^-2"},
		{of("m", 0), "m^0"},
		{of("m", 11), "m^11"},
		{of("m", math.MinInt), "m^-9223372036854775808"},
		{of("m", math.MaxInt), "m^9223372036854775807"},
		{of("", 1), ""},
		{of("", 1, "", 1), "*"},
		{of("", 2, "m", 1, "", -1), "^2*m*^-1"},
		{of("m", 1, "m", 1, "m", 1), "m*m*m"},
		{of("s", 1, "m", 0, "M M", 1), "s*m^0*M M"},
		{of("a*b", 1, "c^2", 3), "a*b*c^2^3"},
		{slices.Repeat(of("m", 2), 6), "m^2*m^2*m^2*m^2*m^2*m^2"},
		{of("ä\x00\xff", 1), "ä\x00\xff"},
		{slices.Repeat(of("", 1), 1001), strings.Repeat("*", 1000)},
	} {
		if s := Format(x.u); s != x.want {
			t.Errorf("P7.1: Format of %.100v is %.100q and not %.100q", x.u, s, x.want)
		}
	}
}

func TestFormat(t *testing.T) {
	for _, u := range many() {
		if s := Format(u); s != wantedFormat(u) {
			t.Errorf("P7.1: Format of %.100v is %.100q and not %.100q", u, s, wantedFormat(u))
		}
	}
}

func TestParseOfExamples(t *testing.T) {
	for _, x := range []struct {
		s    string
		want []api.Factor
	}{
		{"", nil},
		{"m", of("m", 1)},
		{"m^2", of("m", 2)},
		{"m^8", of("m", 8)},
		{"m^-1", of("m", -1)},
		{"m^-8", of("m", -8)},
		{"eur*h^-1", of("eur", 1, "h", -1)},
		{"a^8*b^-8*c*d^-2", of("a", 8, "b", -8, "c", 1, "d", -2)},
		{"a*a0*a_*aa", of("a", 1, "a0", 1, "a_", 1, "aa", 1)},
		{"if*of^2", of("if", 1, "of", 2)},
		{letters(24) + "^-3", of(letters(24), -3)},
	} {
		if o := parse(x.s); !o.is(outcome{u: x.want}) {
			t.Errorf("P7.1: Parse of %q is %v and not %v", x.s, o, x.want)
		}
	}
	for _, s := range []string{
		"m^1", "s*m", "m^02", "m*", "m^+2", "m^-0", "*m", "m^", "m^^2", "m^9", "m^-9", "m^0", "m^00", "m^-", "m^--1", "m^-01", "m^-+1",
		"*", "^", "^2", "**", "m**s", "m*m", "m*m^-1", "m^2*m", "m^2^3", "m^2*", "*m^2", "m*^2", " ", " m", "m ", "m ^2", "m^ 2", "m^2 ", "m * s", "m\n", "\nm",
		"M", "mS", "1", "2m", "_m", "1*m", "m*2", "m2^", "m-1", "m/s", "m^1.0", "m^2.", "m^0x2", "m^2_", "m^1_0", "m^1e0", "m^a", "m^٢", "m²", "[m]", "m,s",
		"m^10", "m^16", "m^18", "m^-10", "m^99999999999999999999", "m^-99999999999999999999", "m^18446744073709551618", "m^9223372036854775807", "m^-9223372036854775808", "m^4294967298", "m^258",
		"m^" + strings.Repeat("2", 1000), "m^" + strings.Repeat("0", 1000) + "2", "m^-" + strings.Repeat("0", 100) + "1", strings.Repeat("m", 25), strings.Repeat("m", 1<<20),
		"a*b*c*d*e", "a*b*c*d*", "*a*b*c*d", "a*b*c*d**", "a^2*b^2*c^2*d^2*e^2", strings.Repeat("*", 1<<20), "a" + strings.Repeat("*a", 1000), "m\x00", "m^2\x00", "\xff", "ä",
	} {
		if o := parse(s); !o.is(outcome{e: api.ErrForm}) {
			t.Errorf("P7.1: Parse of %.100q is %v and not the error %d", s, o, api.ErrForm)
		}
	}
}

// shortTexts returns all texts of at most n of some bytes.
func shortTexts(n int) (l []string) {
	l = []string{""}
	for from := 0; n > 0; n-- {
		last := l[from:]
		from = len(l)
		for _, s := range last {
			for _, c := range "abM1289-+^*0_ " {
				l = append(l, s+string(c))
			}
		}
	}
	return l
}

// editedTexts returns the texts of valid units with one byte added, replaced or removed.
func editedTexts() (l []string) {
	for _, s := range []string{"m", "m^2", "m^-2", "m*s", "a^-8*b*c^8*d", "eur*h^-1", "a*b*c", letters(24) + "*b^-1", "aa*ab*ac*ad", letters(23) + "^3"} {
		for i := range len(s) + 1 {
			l = append(l, s[:i], s[i:])
			for _, c := range []byte("0123456789^*-+_azAZ \x00\x7f\x80\xff.,/:`{") {
				l = append(l, s[:i]+string([]byte{c})+s[i:], s[:i]+string([]byte{c})+s[min(i+1, len(s)):])
			}
			l = append(l, s[:i]+s[min(i+1, len(s)):], s[:i]+"*e"+s[i:], s[:i]+"^-"+s[i:])
		}
	}
	return l
}

// allTexts returns texts of units and others.
func allTexts() (l []string) {
	for _, u := range many() {
		l = append(l, wantedFormat(u))
	}
	for _, name := range names() {
		l = append(l, name, name+"^2", "a*"+name, name+"*z")
	}
	for _, exp := range exponents() {
		l = append(l, fmt.Sprintf("m^%d", exp), fmt.Sprintf("m^%+d", exp), fmt.Sprintf("m^%02d", exp), fmt.Sprintf("m^-%d", exp), fmt.Sprintf("a^%d*b", exp))
	}
	l = slices.Concat(l, shortTexts(5), editedTexts())
	slices.Sort(l)
	return slices.Compact(l)
}

func TestParse(t *testing.T) {
	found := map[api.Errno]int{}
	for _, s := range allTexts() {
		want := wantedParse(s)
		found[want.e]++
		if o := parse(s); !o.is(want) {
			t.Errorf("P7.1: Parse of %.100q is %v and not %v", s, o, want)
		}
	}
	if found[api.OK] < 1000 || found[api.ErrForm] < 1000 {
		t.Errorf("P7.1: few texts are units, or none: %v", found)
	}
}

func TestCommutative(t *testing.T) {
	fine := 0
	for _, p := range somePairs() {
		ab, ba := times(p[0], p[1]), times(p[1], p[0])
		if ab.e == api.OK {
			fine++
		}
		if (ab.e == api.OK || ba.e == api.OK) && !ab.is(ba) {
			t.Errorf("P7.2: Times of %v and %v is %v, and in the opposite order %v", p[0], p[1], ab, ba)
		}
	}
	if fine < 1000 {
		t.Errorf("P7.2: only %d pairs have a product", fine)
	}
}

func TestAssociative(t *testing.T) {
	units := append(validUnits(-8, 1, 4), of("a", 1, "b", 1, "c", 1, "d", 1), of("a", 1, "b", 1, "c", 1), of("x", -1))
	fine := 0
	for _, a := range units {
		for _, b := range units {
			ab := times(a, b)
			for _, c := range units {
				bc := times(b, c)
				left, right := times(ab.u, c), times(a, bc.u)
				if ab.e != api.OK || bc.e != api.OK || left.e != api.OK || right.e != api.OK {
					continue
				}
				fine++
				if !left.is(right) {
					t.Errorf("P7.2: the products of %v, %v and %v are %v and %v", a, b, c, left, right)
				}
			}
		}
	}
	if fine < 10000 {
		t.Errorf("P7.2: only %d triples have products", fine)
	}
}

func TestNeutralAndInverse(t *testing.T) {
	units := append(validUnits(-8, -3, 1, 8), of("a", 1, "b", 1, "c", 1, "d", 1), of("a", -8, "b", 8, "c", 1, "d", -1))
	for _, a := range units {
		for _, one := range [][]api.Factor{nil, {}} {
			if o, p, q := times(a, one), times(one, a), over(a, one); !o.is(outcome{u: a}) || !p.is(o) || !q.is(o) {
				t.Errorf("P7.2: with the empty unit, %v becomes %v, %v and %v", a, o, p, q)
			}
		}
		if o := over(a, a); !o.is(outcome{}) {
			t.Errorf("P7.2: Over of %v and itself is %v", a, o)
		}
		for _, b := range units {
			if p := times(a, b); p.e == api.OK && !over(p.u, b).is(outcome{u: a}) {
				t.Errorf("P7.2: Over(Times(a, b), b) of %v and %v is %v", a, b, over(p.u, b))
			}
			if q := over(a, b); q.e == api.OK && !times(q.u, b).is(outcome{u: a}) {
				t.Errorf("P7.2: Times(Over(a, b), b) of %v and %v is %v", a, b, times(q.u, b))
			}
		}
	}
}

func TestNormalForm(t *testing.T) {
	for _, l := range many() {
		o := normal(l)
		if o.e == api.OK && (wantedCheck(o.u) != api.OK || Check(o.u) != api.OK) {
			t.Errorf("P7.3: Normal of %.100v is %v, which is not valid", l, o)
		}
		if wantedCheck(l) == api.OK && !o.is(outcome{u: l}) {
			t.Errorf("P7.3: Normal of %v, a valid unit, is %v", l, o)
		}
	}
}

// orders calls f with all orders of l.
func orders(l []api.Factor, f func([]api.Factor)) {
	var place func(n int)
	place = func(n int) {
		if n == len(l) {
			f(l)
			return
		}
		for i := n; i < len(l); i++ {
			l[n], l[i] = l[i], l[n]
			place(n + 1)
			l[n], l[i] = l[i], l[n]
		}
	}
	place(0)
}

func TestOrderOfNormal(t *testing.T) {
	for _, l := range [][]api.Factor{
		of("d", 1, "c", -2, "b", 3, "a", -4),
		of("m", 1, "s", 1, "m", 1, "s", -1, "kg", 2, "h", 1),
		of("m", math.MaxInt, "m", math.MaxInt, "m", math.MinInt, "m", math.MinInt, "m", 5, "s", 1),
		of("m", math.MaxInt, "s", math.MinInt, "m", -math.MaxInt, "s", math.MaxInt, "m", -8),
		of("a", 1, "b", 1, "c", 1, "d", 1, "e", 1, "e", -1),
		of("a", 1, "b", 1, "c", 1, "d", 1, "e", 1),
		of("a", 9, "b", 1, "c", 1, "d", 1, "e", 1, "a", 1),
		of("a", 9, "M", 1, "c", 1, "d", 1, "e", 1, "f", 1),
	} {
		want := normal(slices.Clone(l))
		orders(l, func(l []api.Factor) {
			if o := normal(l); !o.is(want) {
				t.Errorf("P7.3: Normal of %v is %v, and in another order %v", l, o, want)
			}
		})
	}
	r := random()
	for _, l := range chanceLists(3000) {
		mixed := slices.Clone(l)
		r.Shuffle(len(mixed), func(i, j int) { mixed[i], mixed[j] = mixed[j], mixed[i] })
		if o, p := normal(l), normal(mixed); !o.is(p) {
			t.Errorf("P7.3: Normal of %v is %v, and of %v %v", l, o, mixed, p)
		}
	}
}

func TestDividedExponents(t *testing.T) {
	parts := []int{math.MinInt + 9, -1 << 62, -9, -1, 0, 1, 4, 9, 1 << 62, math.MaxInt - 9}
	for _, u := range append(validUnits(-8, 1, 3), of("a", 8, "b", -8, "c", 1, "d", -1), of("m", 9), of("a", 1, "b", 1, "c", 1, "d", 1, "e", 1)) {
		want := normal(u)
		for _, x := range parts {
			for _, y := range parts {
				var l []api.Factor
				for _, f := range u {
					l = append(l, api.Factor{Name: f.Name, Exp: x}, api.Factor{Name: f.Name, Exp: y})
				}
				for _, f := range u {
					l = append(l, api.Factor{Name: f.Name, Exp: -x}, api.Factor{Name: f.Name, Exp: f.Exp - y})
				}
				if o := normal(l); !o.is(want) {
					t.Errorf("P7.3: Normal of %v is %v, and with divided exponents, %v, %v", u, want, l, o)
				}
			}
		}
	}
}

func TestTexts(t *testing.T) {
	seen := map[string][]api.Factor{}
	units := append(validUnits(inRange()...), of("a", 1, "a1", 1, "a_", 1, "m", 1), of("a", -8, "b", -7, "c", 7, "d", 8), of(letters(24), 1), of("table", 5))
	for _, u := range units {
		s := Format(u)
		if other, ok := seen[s]; ok {
			t.Errorf("P7.4: the text of %v and of %v is %q", u, other, s)
		}
		seen[s] = u
		if o := parse(s); !o.is(outcome{u: u}) {
			t.Errorf("P7.4: Parse of %q, the text of %v, is %v", s, u, o)
		}
	}
	if len(seen) != 17*17*17+4 {
		t.Errorf("P7.4: only %d units have texts of their own", len(seen))
	}
}

func TestAcceptedTexts(t *testing.T) {
	for _, s := range allTexts() {
		if o := parse(s); o.e == api.OK && (Format(o.u) != s || Check(o.u) != api.OK) {
			t.Errorf("P7.4: Parse of %q is %v, whose text is %q", s, o, Format(o.u))
		}
	}
}

// wantedPower returns the n-th power of the valid unit u.
func wantedPower(u []api.Factor, n int) (o outcome) {
	for _, f := range u {
		switch exp := n * f.Exp; {
		case exp > 8 || exp < -8:
			return outcome{e: api.ErrUnit}
		case exp != 0:
			o.u = append(o.u, api.Factor{Name: f.Name, Exp: exp})
		}
	}
	return o
}

func TestPowers(t *testing.T) {
	for _, u := range append(validUnits(-8, -4, -1, 1, 2, 3, 8), of("a", 1, "b", -1, "c", 2, "d", -2), of("a", 1, "b", 1, "c", 1, "d", 1)) {
		product, quotient := outcome{}, outcome{}
		for n := range 20 {
			want, opposite := wantedPower(u, n), wantedPower(u, -n)
			if o := normal(slices.Repeat(u, n)); !o.is(want) {
				t.Errorf("P7.5: the power %d of %v is %v and not %v", n, u, o, want)
			}
			if !product.is(want) || !quotient.is(opposite) {
				t.Errorf("P7.5: the powers %d and %d of %v are %v and %v, and not %v and %v", n, -n, u, product, quotient, want, opposite)
			}
			if product.e == api.OK {
				product = times(product.u, u)
			}
			if quotient.e == api.OK {
				quotient = over(quotient.u, u)
			}
		}
	}
	for _, n := range []int{0, 1, 5, 100, 100000} {
		if o := normal(slices.Repeat([]api.Factor{}, n)); !o.is(outcome{}) {
			t.Errorf("P7.5: the power %d of the empty unit is %v", n, o)
		}
		if o := normal(slices.Repeat(of("m", 1, "s", -1), n)); !o.is(wantedPower(of("m", 1, "s", -1), n)) {
			t.Errorf("P7.5: the power %d of m*s^-1 is %v", n, o)
		}
	}
}

// unchanged says whether f leaves l and what its capacity has beyond l as they are, and whether its result shares no memory with them or with its next result.
func unchanged(l []api.Factor, f func([]api.Factor) []api.Factor) bool {
	spare := api.Factor{Name: "q", Exp: 5}
	whole := append(slices.Clone(l), spare, spare, spare, spare, spare)
	part := whole[:len(l)]
	first := f(part)
	kept := slices.Clone(first)
	if !slices.Equal(whole, append(slices.Clone(l), spare, spare, spare, spare, spare)) {
		return false
	}
	for i := range whole {
		whole[i] = spare
	}
	if !slices.Equal(first, kept) {
		return false
	}
	for i := range first {
		first[i] = spare
	}
	return slices.Equal(f(l), kept)
}

func TestPurity(t *testing.T) {
	other := of("kg", 1, "m", 2)
	for _, l := range append(chanceLists(2000), of("m", 1, "s", 2), of("s", 1, "m", 1), nil) {
		for name, f := range map[string]func([]api.Factor) []api.Factor{
			"Normal":      func(l []api.Factor) []api.Factor { return normal(l).u },
			"Times":       func(l []api.Factor) []api.Factor { return times(l, other).u },
			"right Times": func(l []api.Factor) []api.Factor { return times(other, l).u },
			"Times by 1":  func(l []api.Factor) []api.Factor { return times(l, nil).u },
			"Times of 1":  func(l []api.Factor) []api.Factor { return times(nil, l).u },
			"square":      func(l []api.Factor) []api.Factor { return times(l, l).u },
			"Over":        func(l []api.Factor) []api.Factor { return over(l, other).u },
			"right Over":  func(l []api.Factor) []api.Factor { return over(other, l).u },
			"Over by 1":   func(l []api.Factor) []api.Factor { return over(l, nil).u },
			"Check":       func(l []api.Factor) []api.Factor { return of("e", int(Check(l))) },
			"Format":      func(l []api.Factor) []api.Factor { return of(Format(l), 1) },
			"Same":        func(l []api.Factor) []api.Factor { return of(fmt.Sprint(Same(l, other)), 1) },
		} {
			if !unchanged(l, f) {
				t.Errorf("P7.1: %s of %v changes its argument, or its result changes", name, l)
			}
		}
	}
	u, _ := Parse("m*s^2")
	u[0] = api.Factor{}
	if o := parse("m*s^2"); !o.is(outcome{u: of("m", 1, "s", 2)}) {
		t.Errorf("P7.1: Parse returns %v the second time", o)
	}
}
