package decimal

import (
	"math"
	"math/big"
	"regexp"
	"strconv"
	"strings"
	"testing"

	"asof/api"
)

const limit = api.MaxNumber

// edges returns ints in range and beyond it: the bounds and their neighbours, the least and the greatest int, ties of the rounding, and some others.
func edges() (l []int) {
	l = append(l, math.MinInt, math.MaxInt, math.MinInt+1, math.MaxInt-1, 0)
	for _, n := range []int{1, 2, 3, 7, 250000, 499999, 500000, 500001, 999999, 1000000, 1000001, 1500000, 2000000, 2500000, 3000000, 3500000,
		1 << 30, 1152921504606, 1152921504607, 1152921504606000000, 1152921504606500000, 1 << 59, limit/10 - 1, limit / 10, limit/10 + 1,
		limit - 2, limit - 1, limit, limit + 1, limit + 2, 2 * limit, math.MaxInt / 1000000, math.MaxInt/1000000 + 1} {
		l = append(l, n, -n)
	}
	x := uint64(1)
	for i := range 60 {
		x = x*6364136223846793005 + 1442695040888963407
		l = append(l, int(x)>>i)
	}
	return l
}

// within says whether n is in range, by the section 'Terms' of the chapter.
func within(n *big.Int) bool {
	return n.CmpAbs(big.NewInt(limit)) <= 0
}

// rounded returns the integer nearest to r, of two nearest ones the even one.
func rounded(r *big.Rat) *big.Int {
	below := new(big.Int).Div(r.Num(), r.Denom()) // rounded down, because a denominator is positive
	rest := new(big.Rat).Sub(r, new(big.Rat).SetInt(below))
	if side := rest.Cmp(big.NewRat(1, 2)); side > 0 || side == 0 && below.Bit(0) == 1 {
		below.Add(below, big.NewInt(1))
	}
	return below
}

// result returns what a function of the arguments is to return whose exact result is r.
func result(r *big.Rat, arguments ...int) (x int, ok bool) {
	for _, a := range arguments {
		if !within(big.NewInt(int64(a))) {
			return 0, false
		}
	}
	if n := rounded(r); within(n) {
		return int(n.Int64()), true
	}
	return 0, false
}

// ratio returns the rational number a b / c; c is not 0.
func ratio(a, b, c int) *big.Rat {
	product := new(big.Int).Mul(big.NewInt(int64(a)), big.NewInt(int64(b)))
	return new(big.Rat).SetFrac(product, big.NewInt(int64(c)))
}

// binary is a call of a function of two decimals with its result.
type binary struct {
	a, b, x int
	ok      bool
}

// checkBinary compares the results of f, which is called name, with the rows.
func checkBinary(t *testing.T, name string, f func(a, b int) (int, bool), rows []binary) {
	t.Helper()
	for _, r := range rows {
		if x, ok := f(r.a, r.b); x != r.x || ok != r.ok {
			t.Errorf("%s: %d, %d leads to %d %t and not %d %t", name, r.a, r.b, x, ok, r.x, r.ok)
		}
	}
}

// opposed returns the rows with all combinations of the signs of the arguments, where each negated argument negates the result.
func opposed(rows []binary) (l []binary) {
	for _, r := range rows {
		l = append(l, r, binary{-r.a, r.b, -r.x, r.ok}, binary{r.a, -r.b, -r.x, r.ok}, binary{-r.a, -r.b, r.x, r.ok})
	}
	return l
}

func TestFromInt(t *testing.T) {
	for _, c := range []struct {
		n, x int
		ok   bool
	}{
		{3, 3000000, true}, {0, 0, true}, {1, 1000000, true}, {-1, -1000000, true},
		{1152921504606, 1152921504606000000, true}, {-1152921504606, -1152921504606000000, true},
		{1152921504607, 0, false}, {-1152921504607, 0, false},
		{limit, 0, false}, {-limit, 0, false}, {math.MaxInt, 0, false}, {math.MinInt, 0, false},
		{1 << 58, 0, false}, {-1 << 58, 0, false}, // 1000000 times 2^58 is 0 modulo 2^64
		{18446744073710, 0, false}, {-18446744073710, 0, false}, // so is this nearly
	} {
		if x, ok := FromInt(c.n); x != c.x || ok != c.ok {
			t.Error("P2.1: FromInt of", c.n, "is", x, ok)
		}
	}
	for _, n := range edges() {
		want, fits := result(ratio(n, 1000000, 1))
		if x, ok := FromInt(n); x != want || ok != fits {
			t.Error("P2.1: FromInt of", n, "is", x, ok, "and not", want, fits)
		}
	}
}

func TestToInt(t *testing.T) {
	for _, c := range []struct{ x, n int }{
		{0, 0}, {1, 0}, {499999, 0}, {500000, 0}, {500001, 1}, {1000000, 1}, {1499999, 1}, {1500000, 2}, {1500001, 2},
		{2499999, 2}, {2500000, 2}, {2500001, 3}, {3500000, 4}, {4500000, 4},
		{limit, 1152921504607}, {limit + 1, 1152921504607}, {1152921504606500000, 1152921504606}, {1152921504605500000, 1152921504606}, {math.MaxInt, 9223372036855},
	} {
		if n := ToInt(c.x); n != c.n {
			t.Error("P2.1: ToInt of", c.x, "is", n)
		}
		if n := ToInt(-c.x); n != -c.n {
			t.Error("P2.1: ToInt of", -c.x, "is", n)
		}
	}
	if n := ToInt(math.MinInt); n != -9223372036855 {
		t.Error("P2.1: ToInt of the least int is", n)
	}
	for _, x := range edges() {
		if n := ToInt(x); rounded(ratio(x, 1, 1000000)).Cmp(big.NewInt(int64(n))) != 0 {
			t.Error("P2.1: ToInt of", x, "is", n)
		}
	}
}

func TestAddExamples(t *testing.T) {
	checkBinary(t, "P2.1: Add", Add, []binary{
		{1500000, -2000000, -500000, true}, {0, 0, 0, true}, {1, 2, 3, true},
		{limit, 1, 0, false}, {1, limit, 0, false}, {-limit, -1, 0, false}, {limit, 0, limit, true}, {0, -limit, -limit, true},
		{limit - 1, 1, limit, true}, {1 - limit, -1, -limit, true}, {limit, -limit, 0, true}, {limit, limit, 0, false}, {-limit, -limit, 0, false},
		// Here only an argument is not in range.
		{limit + 1, -1, 0, false}, {-1, limit + 1, 0, false}, {-limit - 1, 1, 0, false}, {1, -limit - 1, 0, false},
		{limit + 1, -limit - 1, 0, false}, {math.MinInt, math.MaxInt, 0, false}, {math.MaxInt, math.MinInt, 0, false},
		{math.MinInt, math.MinInt, 0, false}, {math.MaxInt, math.MaxInt, 0, false}, {math.MaxInt, 1, 0, false},
	})
}

func TestSubExamples(t *testing.T) {
	checkBinary(t, "P2.1: Sub", Sub, []binary{
		{1500000, 2000000, -500000, true}, {0, 0, 0, true}, {3, 1, 2, true}, {1, 3, -2, true},
		{-1, limit, 0, false}, {limit, -1, 0, false}, {-limit, 1, 0, false}, {0, limit, -limit, true}, {0, -limit, limit, true},
		{-1, limit - 1, -limit, true}, {limit - 1, -1, limit, true}, {limit, limit, 0, true}, {limit, -limit, 0, false}, {-limit, limit, 0, false},
		// Here only an argument is not in range.
		{limit + 1, 1, 0, false}, {1, limit + 1, 0, false}, {-limit - 1, -1, 0, false}, {-1, -limit - 1, 0, false},
		{limit + 1, limit + 1, 0, false}, {math.MinInt, math.MinInt, 0, false}, {math.MaxInt, math.MaxInt, 0, false},
		{math.MinInt, 1, 0, false}, {0, math.MinInt, 0, false}, {math.MaxInt, math.MinInt, 0, false},
	})
}

func TestSums(t *testing.T) {
	for _, a := range edges() {
		for _, b := range edges() {
			x, y := ratio(a, 1, 1), ratio(b, 1, 1)
			sum, fits := result(new(big.Rat).Add(x, y), a, b)
			checkBinary(t, "P2.1: Add", Add, []binary{{a, b, sum, fits}})
			difference, fits := result(new(big.Rat).Sub(x, y), a, b)
			checkBinary(t, "P2.1: Sub", Sub, []binary{{a, b, difference, fits}})
		}
	}
}

func TestMulExamples(t *testing.T) {
	checkBinary(t, "P2.2: Mul", Mul, opposed([]binary{
		{1500000, 1500000, 2250000, true}, {2500000, 2000000, 5000000, true}, {0, limit, 0, true}, {limit, 0, 0, true},
		// Ties, and their neighbours.
		{1, 500000, 0, true}, {3, 500000, 2, true}, {5, 500000, 2, true}, {7, 500000, 4, true}, {1, 1500000, 2, true}, {1, 2500000, 2, true},
		{1, 499999, 0, true}, {1, 500001, 1, true}, {3, 499999, 1, true}, {3, 500001, 2, true}, {1, 1, 0, true},
		// The bounds of the range.
		{limit, 1000000, limit, true}, {1000000, limit, limit, true}, {limit, 1000001, 0, false}, {limit, 999999, limit - 1152921504607, true},
		{limit, limit, 0, false}, {1 << 40, 1 << 40, 0, false}, {1 << 50, 1 << 10 * 1000000, limit, true}, {1 << 50, 1<<10*1000000 + 1, 0, false},
		// The exact products are 2^60 millionths and 0.49529, 0.5 (a tie, and 2^60 is even), and 0.500001 of a millionth.
		{1152920351686495290, 1000001, limit, true}, {768614336404564651, 1500000, limit, true}, {80077578759149693, 14397557, 0, false},
		{limit + 1, 0, 0, false}, {limit + 1, 1, 0, false}, {0, limit + 1, 0, false}, {1, limit + 1, 0, false},
		{math.MaxInt, 0, 0, false}, {0, math.MaxInt, 0, false}, {math.MaxInt, math.MaxInt, 0, false},
	}))
	checkBinary(t, "P2.2: Mul", Mul, []binary{
		{math.MinInt, 0, 0, false}, {0, math.MinInt, 0, false}, {1, math.MinInt, 0, false}, {math.MinInt, math.MinInt, 0, false}, {math.MinInt, math.MaxInt, 0, false},
	})
}

func TestDivExamples(t *testing.T) {
	checkBinary(t, "P2.2: Div", Div, opposed([]binary{
		{1000000, 3000000, 333333, true}, {2000000, 3000000, 666667, true}, {3000000, 2000000, 1500000, true}, {0, 1, 0, true}, {0, limit, 0, true},
		// Ties, and their neighbours.
		{1, 2000000, 0, true}, {3, 2000000, 2, true}, {5, 2000000, 2, true}, {7, 2000000, 4, true},
		{1, 2000001, 0, true}, {1, 1999999, 1, true}, {3, 2000001, 1, true}, {3, 1999999, 2, true}, {5, 1999999, 3, true},
		// The bounds of the range.
		{limit, 1000000, limit, true}, {limit, 999999, 0, false}, {limit, 1000001, 1152920351686495290, true}, {limit, limit, 1000000, true}, {limit, 1, 0, false},
		// The exact quotients are 2^60 millionths and just below and just above half of one.
		{735661918267059953, 638085, limit, true}, {314036218189326800, 272383, 0, false},
		{1, limit, 0, true}, {1152921504606, 1, 1152921504606000000, true}, {1152921504607, 1, 0, false},
		// A divisor of 0.
		{1, 0, 0, false}, {0, 0, 0, false}, {limit, 0, 0, false}, {limit + 1, 0, 0, false},
		{limit + 1, 1000001, 0, false}, {limit + 1, limit, 0, false}, {0, limit + 1, 0, false}, {1, limit + 1, 0, false},
		{math.MaxInt, math.MaxInt, 0, false}, {0, math.MaxInt, 0, false}, {math.MaxInt, limit, 0, false},
	}))
	checkBinary(t, "P2.2: Div", Div, []binary{
		{math.MinInt, 0, 0, false}, {0, math.MinInt, 0, false}, {math.MinInt, math.MinInt, 0, false}, {math.MinInt, limit, 0, false}, {limit, math.MinInt, 0, false},
	})
}

func TestProducts(t *testing.T) {
	for _, a := range edges() {
		for _, b := range edges() {
			product, fits := result(ratio(a, b, 1000000), a, b)
			checkBinary(t, "P2.2: Mul", Mul, []binary{{a, b, product, fits}})
			quotient, fits := 0, false
			if b != 0 {
				quotient, fits = result(ratio(a, 1000000, b), a, b)
			}
			checkBinary(t, "P2.2: Div", Div, []binary{{a, b, quotient, fits}})
		}
	}
}

// The rounded product or quotient is compared with the range, not the exact one.
func TestRoundingAtTheBounds(t *testing.T) {
	inside, outside := 0, 0
	for b := 2; b < 1000000; b += 9973 {
		for step := -3; step <= 3; step++ {
			a := int(rounded(ratio(limit, b, 1000000)).Int64()) + step
			quotient, fits := result(ratio(a, 1000000, b), a, b)
			checkBinary(t, "P2.2: Div", Div, opposed([]binary{{a, b, quotient, fits}}))
			a = int(rounded(ratio(limit, 1000000, 1000000+b)).Int64()) + step
			product, fits := result(ratio(a, 1000000+b, 1000000), a, b)
			checkBinary(t, "P2.2: Mul", Mul, opposed([]binary{{a, 1000000 + b, product, fits}}))
			if fits {
				inside++
			} else {
				outside++
			}
		}
	}
	if inside == 0 || outside == 0 {
		t.Fatal("all products are on one side of the bound:", inside, outside)
	}
}

func TestParseExamples(t *testing.T) {
	for _, c := range []struct {
		s string
		x int
		e api.Errno
	}{
		{"-2.5", -2500000, api.OK}, {"007", 7000000, api.OK}, {"0", 0, api.OK}, {"-0", 0, api.OK}, {"-0.000000", 0, api.OK}, {"00.0", 0, api.OK},
		{"1.5", 1500000, api.OK}, {"1.05", 1050000, api.OK}, {"1.005", 1005000, api.OK}, {"1.0005", 1000500, api.OK}, {"1.00005", 1000050, api.OK}, {"1.000005", 1000005, api.OK},
		{"0.1", 100000, api.OK}, {"0.123456", 123456, api.OK}, {"-00.000001", -1, api.OK}, {"9876543210.987654", 9876543210987654, api.OK},
		// The bounds of the range.
		{"1152921504606.846976", limit, api.OK}, {"-1152921504606.846976", -limit, api.OK}, {"1152921504606.846975", limit - 1, api.OK},
		{"1152921504606.846977", 0, api.ErrLimit}, {"-1152921504606.846977", 0, api.ErrLimit}, {"1152921504606.846979", 0, api.ErrLimit}, {"1152921504606.84698", 0, api.ErrLimit},
		{"1152921504606", 1152921504606000000, api.OK}, {"1152921504607", 0, api.ErrLimit}, {"-1152921504607", 0, api.ErrLimit}, {"1152921504606.9", 0, api.ErrLimit},
		{"1152921504606846976", 0, api.ErrLimit}, {"1152921504606846977", 0, api.ErrLimit}, {"1152921504606846970", 0, api.ErrLimit},
		{"9223372036854775808", 0, api.ErrLimit}, {"18446744073709551616", 0, api.ErrLimit}, {"18446744073709551617.000001", 0, api.ErrLimit}, {"-340282366920938463463374607431768211456", 0, api.ErrLimit},
		{"18446744073709.551616", 0, api.ErrLimit}, {"18446744073709.551617", 0, api.ErrLimit}, // 2^64 millionths, and one more
		// Their digits form multiples of 2^64, reached from a number in range.
		{"92233720368547758080", 0, api.ErrLimit}, {"-92233720368547.758080", 0, api.ErrLimit}, {"110680464442257309696", 0, api.ErrLimit}, {"110680464442257.309697", 0, api.ErrLimit},
		{"0000000000000000000000000000000000000001.5", 1500000, api.OK}, {"-000000000000000000001152921504606.846976", -limit, api.OK},
		// Almost decimals.
		{"", 0, api.ErrForm}, {"-", 0, api.ErrForm}, {".", 0, api.ErrForm}, {"-.", 0, api.ErrForm}, {".5", 0, api.ErrForm}, {"-.5", 0, api.ErrForm}, {"1.", 0, api.ErrForm}, {"-1.", 0, api.ErrForm},
		{"1.1234567", 0, api.ErrForm}, {"1.0000000", 0, api.ErrForm}, {"0.00000000000000000000000000000", 0, api.ErrForm}, {"1,5", 0, api.ErrForm}, {"+1", 0, api.ErrForm}, {"--1", 0, api.ErrForm}, {"-+1", 0, api.ErrForm},
		{"1-", 0, api.ErrForm}, {"1.-5", 0, api.ErrForm}, {"1.2.3", 0, api.ErrForm}, {"1..2", 0, api.ErrForm}, {"1.2.", 0, api.ErrForm}, {"..", 0, api.ErrForm},
		{" 1", 0, api.ErrForm}, {"1 ", 0, api.ErrForm}, {"- 1", 0, api.ErrForm}, {"1. 5", 0, api.ErrForm}, {"1\n", 0, api.ErrForm}, {"1\x00", 0, api.ErrForm}, {"1e3", 0, api.ErrForm}, {"0x10", 0, api.ErrForm}, {"1_000", 0, api.ErrForm},
		{"inf", 0, api.ErrForm}, {"NaN", 0, api.ErrForm}, {"\u0661", 0, api.ErrForm}, {"1\xff", 0, api.ErrForm}, {"\u22121", 0, api.ErrForm}, {"/", 0, api.ErrForm}, {":", 0, api.ErrForm}, {"1/2", 0, api.ErrForm}, {"1:2", 0, api.ErrForm},
		// The form is checked before the range.
		{"99999999999999999999999999x", 0, api.ErrForm}, {"99999999999999999999999999.", 0, api.ErrForm}, {"99999999999999999999999999.0000000", 0, api.ErrForm}, {"1152921504607.0000001", 0, api.ErrForm},
	} {
		if x, e := Parse(c.s); x != c.x || e != c.e {
			t.Errorf("P2.3: Parse of %q is %d and the error %d, and not %d and %d", c.s, x, e, c.x, c.e)
		}
	}
}

var grammar = regexp.MustCompile(`\A-?[0-9]+(\.[0-9]{1,6})?\z`)

// parsed returns what Parse is to return.
func parsed(s string) (x int, e api.Errno) {
	if !grammar.MatchString(s) {
		return 0, api.ErrForm
	}
	r, _ := new(big.Rat).SetString(s)
	x, ok := result(r.Mul(r, ratio(1000000, 1, 1)))
	if !ok {
		return 0, api.ErrLimit
	}
	return x, api.OK
}

func checkParse(t *testing.T, s string) {
	t.Helper()
	want, code := parsed(s)
	if x, e := Parse(s); x != want || e != code {
		t.Errorf("P2.3: Parse of %q is %d and the error %d, and not %d and %d", s, x, e, want, code)
	}
}

// Each text is tried with each byte inserted, replaced and removed at each place.
func TestParseNeighbours(t *testing.T) {
	for _, s := range []string{"", "0", "-7", "12.5", "-0.123456", "1152921504606.846976", "-1152921504606.84697", "1152921504606846976"} {
		for i := range len(s) + 1 {
			for c := range 256 {
				b := string([]byte{byte(c)})
				checkParse(t, s[:i]+b+s[i:])
				if i < len(s) {
					checkParse(t, s[:i]+b+s[i+1:])
				}
			}
			if i < len(s) {
				checkParse(t, s[:i]+s[i+1:])
			}
		}
	}
}

func TestParseNumbersOfAllLengths(t *testing.T) {
	for _, sign := range []string{"", "-"} {
		for whole := range 45 {
			for fraction := range 10 {
				for _, digit := range []string{"0", "1", "9"} {
					s := sign + strings.Repeat(digit, whole)
					checkParse(t, s)
					checkParse(t, s+"."+strings.Repeat(digit, fraction))
					checkParse(t, s+"."+strings.Repeat("9", fraction))
				}
			}
		}
	}
}

// The digits of the bound and of integers near it are tried with the point at each place, with and without the last digit.
func TestParseAroundTheBound(t *testing.T) {
	for step := -100; step <= 100; step++ {
		s := strconv.Itoa(limit + step)
		for point := range len(s) {
			checkParse(t, s[:point]+"."+s[point:])
			checkParse(t, s[:point]+"."+s[point:len(s)-1])
			checkParse(t, "-"+s[:point]+"."+s[point:])
		}
		checkParse(t, s)
	}
}

func TestParseLongTexts(t *testing.T) {
	zeros, nines := strings.Repeat("0", 1<<20), strings.Repeat("9", 1<<20)
	for _, c := range []struct {
		s string
		x int
		e api.Errno
	}{
		{zeros, 0, api.OK}, {zeros + "1.5", 1500000, api.OK}, {"-" + zeros + "1.5", -1500000, api.OK}, {"1" + zeros, 0, api.ErrLimit}, {nines, 0, api.ErrLimit},
		{"-" + nines + ".999999", 0, api.ErrLimit}, {nines + "x", 0, api.ErrForm}, {"1." + zeros, 0, api.ErrForm}, {nines + "." + nines, 0, api.ErrForm},
	} {
		if x, e := Parse(c.s); x != c.x || e != c.e {
			t.Errorf("P2.3: Parse of %.8s... (%d bytes) is %d and the error %d", c.s, len(c.s), x, e)
		}
	}
}

func TestFormat(t *testing.T) {
	for _, c := range []struct {
		x int
		s string
	}{
		{0, "0.000000"}, {-1, "-0.000001"}, {limit, "1152921504606.846976"}, {-limit, "-1152921504606.846976"}, {-2500000, "-2.500000"}, {7, "0.000007"},
		{10, "0.000010"}, {999999, "0.999999"}, {-999999, "-0.999999"}, {1000000, "1.000000"}, {-1000000, "-1.000000"}, {1000001, "1.000001"}, {123456789, "123.456789"},
		{math.MaxInt, "9223372036854.775807"}, {math.MinInt, "-9223372036854.775808"},
	} {
		if s := Format(c.x); s != c.s {
			t.Errorf("P2.3: Format of %d is %q", c.x, s)
		}
	}
	for _, x := range edges() {
		if s := Format(x); s != ratio(x, 1, 1000000).FloatString(6) {
			t.Errorf("P2.3: Format of %d is %q", x, s)
		}
	}
}

func TestParseUndoesFormat(t *testing.T) {
	for _, x := range edges() {
		want, code := x, api.OK
		if !within(big.NewInt(int64(x))) {
			want, code = 0, api.ErrLimit
		}
		if y, e := Parse(Format(x)); y != want || e != code {
			t.Error("P2.4: Parse of Format of", x, "is", y, e)
		}
	}
}

func TestHalfAMillionth(t *testing.T) {
	half := big.NewRat(1, 2)
	for _, a := range edges() {
		for _, b := range edges() {
			if x, ok := Mul(a, b); ok {
				off := new(big.Rat).Sub(ratio(x, 1, 1), ratio(a, b, 1000000))
				if off.Abs(off).Cmp(half) > 0 {
					t.Error("P2.4: Mul of", a, b, "is", x)
				}
			}
			if x, ok := Div(a, b); ok {
				off := new(big.Rat).Sub(ratio(x, 1, 1), ratio(a, 1000000, b))
				if off.Abs(off).Cmp(half) > 0 {
					t.Error("P2.4: Div of", a, b, "is", x)
				}
			}
		}
	}
}

func TestLaws(t *testing.T) {
	for _, a := range edges() {
		for _, b := range edges() {
			sum, ok := Add(a, b)
			checkBinary(t, "P2.4: Add in the other order", Add, []binary{{b, a, sum, ok}})
			if ok {
				checkBinary(t, "P2.4: Sub after Add", Sub, []binary{{sum, b, a, true}, {sum, a, b, true}})
			}
			product, ok := Mul(a, b)
			checkBinary(t, "P2.4: Mul in the other order", Mul, []binary{{b, a, product, ok}})
			if a == math.MinInt || b == math.MinInt {
				continue // the opposite is no int
			}
			checkBinary(t, "P2.4: Mul of opposites", Mul, opposed([]binary{{a, b, product, ok}}))
			quotient, ok := Div(a, b)
			checkBinary(t, "P2.4: Div of opposites", Div, opposed([]binary{{a, b, quotient, ok}}))
		}
	}
}

func TestNoDecrease(t *testing.T) {
	for _, a := range edges() {
		for _, b := range edges() {
			for _, step := range []int{1, 2, 499999, 1000000, 1 << 40} {
				if b < 0 || a > limit-step || a < -limit {
					continue
				}
				low, ok := Mul(a, b)
				if high, fits := Mul(a+step, b); ok && fits && high < low {
					t.Error("P2.4: Mul of", a, b, "decreases by the step", step)
				}
				low, ok = Div(a, b)
				if high, fits := Div(a+step, b); ok && fits && high < low {
					t.Error("P2.4: Div of", a, b, "decreases by the step", step)
				}
			}
		}
	}
}

func TestIntegers(t *testing.T) {
	integers := []int{0, 1, -1, 2, -2, 3, 7, -10, 1000, -999983, 1 << 20, -1 << 20, 1 << 30, 1152921504606, -1152921504606}
	for _, m := range integers {
		a, ok := FromInt(m)
		if !ok || ToInt(a) != m {
			t.Error("P2.4: ToInt does not undo FromInt for", m)
		}
		for _, n := range integers {
			b, _ := FromInt(n)
			sum, ok := FromInt(m + n)
			checkBinary(t, "P2.4: Add of integers", Add, []binary{{a, b, sum, ok}})
			difference, ok := FromInt(m - n)
			checkBinary(t, "P2.4: Sub of integers", Sub, []binary{{a, b, difference, ok}})
			product, ok := result(ratio(a, n, 1))
			checkBinary(t, "P2.4: Mul of integers", Mul, []binary{{a, b, product, ok}})
			if n != 0 && ok {
				checkBinary(t, "P2.4: Div of a multiple", Div, []binary{{product, b, a, true}})
			}
		}
	}
}
