package exact

import (
	"math"
	"math/big"
	"testing"

	"asof/api"
)

// The greatest 128-bit integer is below 2^127, where two's complement wraps around.
var (
	whole = new(big.Int).Lsh(big.NewInt(1), 128)
	half  = new(big.Int).Lsh(big.NewInt(1), 127)
)

// integer returns the integer that a stands for, by the definition of Wide.
func integer(a api.Wide) *big.Int {
	n := new(big.Int).Lsh(big.NewInt(int64(a.Hi)), 64)
	return n.Add(n, new(big.Int).SetUint64(a.Lo))
}

// wrapped returns the Wide whose integer differs from n by a multiple of 2^128.
func wrapped(n *big.Int) api.Wide {
	m := new(big.Int).Mod(new(big.Int).Add(n, half), whole)
	m.Sub(m, half)
	hi := new(big.Int).Rsh(m, 64) // Rsh rounds down, also below 0
	lo := new(big.Int).Sub(m, new(big.Int).Lsh(hi, 64))
	return api.Wide{Hi: int(hi.Int64()), Lo: lo.Uint64()}
}

// scrambled yields n fixed words without a visible pattern.
func scrambled(n int) (words []uint64) {
	x := uint64(1)
	for range n {
		x = x*6364136223846793005 + 1442695040888963407
		words = append(words, x^x>>29)
	}
	return words
}

// ints returns integers at and around the edges, and some between them.
func ints() (l []int) {
	for _, n := range []int{0, 1, 2, 3, 5, 7, 10, 1 << 31, 1 << 32, 1 << 60, 1 << 61, 1 << 62, math.MaxInt - 1} {
		l = append(l, n, n+1, -n, -n-1)
	}
	l = append(l, 1<<60-1, 1-1<<60, math.MinInt)
	for i, x := range scrambled(16) {
		l = append(l, int(x)>>(4*i))
	}
	return l
}

// wides returns 128-bit integers at and around the edges, and some between them.
func wides() (l []api.Wide) {
	for _, hi := range []int{math.MinInt, math.MinInt + 1, -1 << 60, -2, -1, 0, 1, 1 << 59, math.MaxInt} {
		for _, lo := range []uint64{0, 1, 1<<63 - 1, 1 << 63, 1<<63 + 1, math.MaxUint64} {
			l = append(l, api.Wide{Hi: hi, Lo: lo})
		}
	}
	words := scrambled(24)
	for i := 0; i < len(words); i += 2 {
		l = append(l, api.Wide{Hi: int(words[i]) >> (5 * i), Lo: words[i+1]})
	}
	return l
}

func TestExamples(t *testing.T) {
	for _, x := range []struct {
		call      string
		got, want api.Wide
	}{
		{"Of(-1)", Of(-1), api.Wide{Hi: -1, Lo: 1<<64 - 1}},
		{"Mul(-3, 5)", Mul(-3, 5), api.Wide{Hi: -1, Lo: 1<<64 - 15}},
		{"Mul(2^62, 4)", Mul(1<<62, 4), api.Wide{Hi: 1}},
		{"Neg of Hi 1, Lo 0", Neg(api.Wide{Hi: 1}), api.Wide{Hi: -1}},
		{"Scale of Hi 0, Lo 2^63 by 2", Scale(api.Wide{Lo: 1 << 63}, 2), api.Wide{Hi: 1}},
	} {
		if x.got != x.want {
			t.Error("P1.1:", x.call, "is", x.got, "and not", x.want)
		}
	}
	if n := Compare(Of(-1), Of(0)); n != -1 {
		t.Error("P1.1: Compare(Of(-1), Of(0)) is", n)
	}
	for _, x := range []struct {
		a, d, q int
		ok      bool
	}{{7, 2, 4, true}, {5, 2, 2, true}, {-5, 2, -2, true}, {-7, 2, -4, true}, {1<<60 + 1, 1, 0, false}, {1, 0, 0, false}} {
		if q, ok := Divide(Of(x.a), x.d); q != x.q || ok != x.ok {
			t.Error("P1.1: Divide of", x.a, "by", x.d, "is", q, ok)
		}
	}
}

func TestOf(t *testing.T) {
	for _, n := range ints() {
		if a := Of(n); integer(a).Cmp(big.NewInt(int64(n))) != 0 {
			t.Error("P1.1: Of of", n, "is", a)
		}
	}
	for _, x := range []struct {
		n    int
		want api.Wide
	}{{0, api.Wide{}}, {1, api.Wide{Lo: 1}}, {math.MaxInt, api.Wide{Lo: 1<<63 - 1}}, {math.MinInt, api.Wide{Hi: -1, Lo: 1 << 63}}} {
		if a := Of(x.n); a != x.want {
			t.Error("P1.1: Of of", x.n, "is", a)
		}
	}
}

func TestSums(t *testing.T) {
	for _, a := range wides() {
		x := integer(a)
		if c := Neg(a); c != wrapped(new(big.Int).Neg(x)) {
			t.Error("P1.1: Neg of", a, "is", c)
		}
		for _, b := range wides() {
			y := integer(b)
			if c := Add(a, b); c != wrapped(new(big.Int).Add(x, y)) {
				t.Error("P1.1: Add of", a, b, "is", c)
			}
			if c := Sub(a, b); c != wrapped(new(big.Int).Sub(x, y)) {
				t.Error("P1.1: Sub of", a, b, "is", c)
			}
		}
	}
}

func TestSumsWrapAround(t *testing.T) {
	least, greatest := api.Wide{Hi: math.MinInt}, api.Wide{Hi: math.MaxInt, Lo: math.MaxUint64}
	for i, x := range []struct{ got, want api.Wide }{
		{Add(greatest, Of(1)), least},
		{Sub(least, Of(1)), greatest},
		{Neg(least), least},
		{Neg(greatest), Add(least, Of(1))},
		{Add(least, least), Of(0)},
		{Sub(Of(0), least), least},
		{Scale(least, 2), Of(0)},
		{Scale(least, -1), least},
		{Scale(greatest, -1), Add(least, Of(1))},
	} {
		if x.got != x.want {
			t.Error("P1.1:", i, x.got, x.want)
		}
	}
}

func TestProducts(t *testing.T) {
	for _, a := range ints() {
		for _, b := range ints() {
			exact := new(big.Int).Mul(big.NewInt(int64(a)), big.NewInt(int64(b)))
			if c := Mul(a, b); integer(c).Cmp(exact) != 0 {
				t.Error("P1.1: Mul of", a, b, "is", c)
			}
		}
	}
	for _, a := range wides() {
		for _, n := range ints() {
			exact := new(big.Int).Mul(integer(a), big.NewInt(int64(n)))
			if c := Scale(a, n); c != wrapped(exact) {
				t.Error("P1.1: Scale of", a, "by", n, "is", c)
			}
		}
	}
}

// nearest divides by rounding half up and then steps back from an odd tie.
func nearest(a, d *big.Int) *big.Int {
	size := new(big.Int).Abs(d)
	twice := new(big.Int).Lsh(size, 1)
	above := new(big.Int).Add(new(big.Int).Lsh(new(big.Int).Abs(a), 1), size)
	q, rest := new(big.Int).QuoRem(above, twice, new(big.Int))
	if rest.Sign() == 0 && q.Bit(0) == 1 {
		q.Sub(q, big.NewInt(1))
	}
	if a.Sign()*d.Sign() < 0 {
		q.Neg(q)
	}
	return q
}

func TestDivide(t *testing.T) {
	limit := big.NewInt(api.MaxNumber)
	dividends := wides()
	for _, n := range ints() {
		dividends = append(dividends, Of(n), Mul(n, 1<<60), Add(Mul(n, 1<<60), Mul(n/2, 1)))
	}
	for _, a := range dividends {
		for _, d := range ints() {
			want, fits := new(big.Int), false
			if d != 0 {
				exact := nearest(integer(a), big.NewInt(int64(d)))
				if exact.CmpAbs(limit) <= 0 {
					want, fits = exact, true
				}
			}
			if q, ok := Divide(a, d); int64(q) != want.Int64() || ok != fits {
				t.Error("P1.1: Divide of", a, "by", d, "is", q, ok, "and not", want, fits)
			}
		}
	}
}

func TestDivideEdges(t *testing.T) {
	least := api.Wide{Hi: math.MinInt}
	for i, x := range []struct {
		a    api.Wide
		d, q int
		ok   bool
	}{
		{Of(0), 0, 0, false}, {least, 0, 0, false}, {least, -1, 0, false}, {least, math.MinInt, 0, false}, {least, math.MaxInt, 0, false},
		{Of(0), math.MinInt, 0, true}, {Of(1), math.MinInt, 0, true}, {Of(math.MinInt), math.MinInt, 1, true}, {Of(math.MaxInt), math.MinInt, -1, true},
		{Of(1 << 60), 1, 1 << 60, true}, {Of(-1 << 60), 1, -1 << 60, true}, {Of(1 << 60), -1, -1 << 60, true}, {Of(-1 << 60), -1, 1 << 60, true},
		{Of(1<<60 + 1), -1, 0, false}, {Of(-1<<60 - 1), 1, 0, false}, {Of(-1<<60 - 1), -1, 0, false},
		// 2^60 + 1/2 is rounded to the even 2^60, which still fits; more than that does not.
		{Of(1<<61 + 1), 2, 1 << 60, true}, {Of(-1<<61 - 1), 2, -1 << 60, true}, {Add(Mul(1<<60, 10), Of(6)), 10, 0, false},
		// 2^64 - 1/2 would be rounded to 2^64, whose lower half is 0.
		{api.Wide{Hi: 1, Lo: math.MaxUint64}, 2, 0, false}, {api.Wide{Hi: 1, Lo: math.MaxUint64}, -2, 0, false},
		// Half of -2^63 is a tie; one more in absolute value is not.
		{Of(1 << 62), math.MinInt, 0, true}, {Of(1<<62 + 1), math.MinInt, -1, true}, {Of(-1<<62 - 1), math.MinInt, 1, true},
		{Mul(3, 1<<62), math.MinInt, -2, true}, {Mul(-3, 1<<62), math.MinInt, 2, true}, {Mul(5, 1<<62), math.MinInt, -2, true},
		{Mul(1<<60, math.MinInt), math.MinInt, 1 << 60, true}, {Mul(1<<60, math.MinInt), math.MaxInt, -1 << 60, true},
	} {
		if q, ok := Divide(x.a, x.d); q != x.q || ok != x.ok {
			t.Error("P1.1:", i, x.a, x.d, q, ok)
		}
	}
}

func TestRing(t *testing.T) {
	l := wides()
	for _, a := range l {
		if Add(a, Of(0)) != a || Add(Of(0), a) != a {
			t.Error("P1.2: Of(0) is not neutral for", a)
		}
		if Add(a, Neg(a)) != Of(0) || Add(Neg(a), a) != Of(0) {
			t.Error("P1.2: Neg is not the inverse of", a)
		}
		for _, b := range l {
			if Add(a, b) != Add(b, a) {
				t.Error("P1.2: Add is not commutative for", a, b)
			}
			if Sub(a, b) != Add(a, Neg(b)) {
				t.Error("P1.2: Sub does not add the inverse for", a, b)
			}
			for _, c := range l {
				if Add(Add(a, b), c) != Add(a, Add(b, c)) {
					t.Error("P1.2: Add is not associative for", a, b, c)
				}
			}
		}
	}
}

func TestScaleIsDistributive(t *testing.T) {
	l, numbers := wides(), ints()
	for _, n := range numbers {
		for _, a := range l {
			for _, b := range l {
				if Scale(Add(a, b), n) != Add(Scale(a, n), Scale(b, n)) {
					t.Error("P1.2: Scale is not distributive for", a, b, n)
				}
			}
		}
		for _, m := range numbers {
			if Scale(Of(n), m) != Mul(n, m) {
				t.Error("P1.2: Scale of Of differs from Mul for", n, m)
			}
		}
	}
}

func TestOrder(t *testing.T) {
	l := wides()
	for _, a := range l {
		for _, b := range l {
			n := Compare(a, b)
			if n != integer(a).Cmp(integer(b)) {
				t.Error("P1.1: Compare of", a, b, "is", n)
			}
			if n != -Compare(b, a) || (n == 0) != (a == b) {
				t.Error("P1.3: Compare is not antisymmetric for", a, b)
			}
			for _, c := range l {
				if n <= 0 && Compare(b, c) <= 0 && Compare(a, c) > 0 {
					t.Error("P1.3: Compare is not transitive for", a, b, c)
				}
			}
		}
	}
}

func TestOrderOfIntegers(t *testing.T) {
	for _, m := range ints() {
		for _, n := range ints() {
			want := 0
			if m < n {
				want = -1
			} else if m > n {
				want = 1
			}
			if got := Compare(Of(m), Of(n)); got != want {
				t.Error("P1.3: Compare of Of", m, n, "is", got)
			}
		}
	}
}

func TestRounding(t *testing.T) {
	for _, a := range append(wides(), Of(1<<62), Of(-1<<62), Of(5), Of(-5)) {
		for _, d := range ints() {
			q, ok := Divide(a, d)
			if !ok {
				if q != 0 {
					t.Error("P1.1: Divide of", a, "by", d, "is", q, "and false")
				}
				continue
			}
			rest := new(big.Int).Sub(integer(a), new(big.Int).Mul(big.NewInt(int64(q)), big.NewInt(int64(d))))
			n := rest.Lsh(rest, 1).CmpAbs(big.NewInt(int64(d)))
			if n > 0 || n == 0 && q%2 != 0 {
				t.Error("P1.4: Divide of", a, "by", d, "is", q)
			}
		}
	}
}

func TestTiesInBothDirections(t *testing.T) {
	for _, x := range []struct{ a, d, q int }{
		{1, 2, 0}, {3, 2, 2}, {5, 2, 2}, {7, 2, 4}, {9, 2, 4},
		{5, 10, 0}, {15, 10, 2}, {25, 10, 2}, {35, 10, 4},
		{4, 10, 0}, {6, 10, 1}, {14, 10, 1}, {16, 10, 2}, {24, 10, 2}, {26, 10, 3},
		{1, 3, 0}, {2, 3, 1}, {4, 3, 1}, {5, 3, 2},
	} {
		for _, sign := range []struct{ a, d int }{{1, 1}, {1, -1}, {-1, 1}, {-1, -1}} {
			q, ok := Divide(Of(sign.a*x.a), sign.d*x.d)
			if q != sign.a*sign.d*x.q || !ok {
				t.Error("P1.4: Divide of", sign.a*x.a, "by", sign.d*x.d, "is", q, ok)
			}
		}
	}
}

func TestDivideUndoesMul(t *testing.T) {
	for _, d := range ints() {
		for _, n := range ints() {
			within := n >= -api.MaxNumber && n <= api.MaxNumber
			want, fits := 0, false
			if within && d != 0 {
				want, fits = n, true
			}
			if q, ok := Divide(Mul(n, d), d); q != want || ok != fits {
				t.Error("P1.4: Divide of Mul of", n, d, "is", q, ok)
			}
		}
	}
}

// products returns the products of neighbours in the list of edges.
func products() (l []api.Wide) {
	numbers := ints()
	for i, n := range numbers {
		l = append(l, Mul(n, numbers[(i*7+3)%len(numbers)]))
	}
	return l
}

// orders returns permutations of the numbers from 0 to n - 1, the first one backwards.
func orders(n int) (l [][]int) {
	order := make([]int, n)
	for i := range order {
		order[i] = n - 1 - i
	}
	for range 20 {
		l = append(l, append([]int(nil), order...))
		for i, x := range scrambled(n * (len(l) + 1))[n*len(l):] {
			j := int(x % uint64(i+1))
			order[i], order[j] = order[j], order[i]
		}
	}
	return l
}

func TestSumsOfProducts(t *testing.T) {
	l := products()
	exact := new(big.Int)
	for _, p := range l {
		exact.Add(exact, integer(p))
	}
	want := wrapped(exact)
	if want == Of(0) {
		t.Fatal("the products cancel out, so that their sum tests nothing")
	}
	for _, order := range orders(len(l)) {
		sum := Of(0)
		for _, i := range order {
			sum = Add(sum, l[i])
		}
		if sum != want {
			t.Error("P1.5: the sum is", sum, "and not", want, "in the order", order)
		}
	}
}

func TestSumsLeadBack(t *testing.T) {
	l := products()
	for _, start := range wides() {
		for _, order := range orders(len(l)) {
			up, down := start, start
			for i := range l {
				up, down = Add(up, l[i]), Sub(down, l[i])
			}
			for _, i := range order {
				up, down = Sub(up, l[i]), Add(down, l[i])
			}
			if up != start || down != start {
				t.Error("P1.5: from", start, "to", up, "and", down, "in the order", order)
			}
		}
	}
}
