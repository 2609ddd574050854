package values

import (
	"bytes"
	"encoding/binary"
	"fmt"
	"math"
	"math/big"
	"regexp"
	"slices"
	"strings"
	"testing"

	"asof/api"
	"asof/decimal"
)

const top = 1 << 60 // the greatest absolute value of a number

// printable are the bytes of a text; all of them but the first one are those of a key.
const printable = " !#$%&'()*+,-./0123456789:;<=>?@ABCDEFGHIJKLMNOPQRSTUVWXYZ[]^_`abcdefghijklmnopqrstuvwxyz{|}~"

var (
	null = api.Value{}
	no   = api.Value{Kind: api.BoolV}
	yes  = api.Value{Kind: api.BoolV, N: 1}
)

func integer(n int) api.Value { return api.Value{Kind: api.IntV, N: n} }
func dec(n int) api.Value     { return api.Value{Kind: api.DecV, N: n} }
func text(s string) api.Value { return api.Value{Kind: api.TextV, S: s} }
func key(s string) api.Value  { return api.Value{Kind: api.KeyV, S: s} }

// letters returns n letters a.
func letters(n int) string { return strings.Repeat("a", n) }

// kinds returns all kinds and what is none, also what becomes a kind when it is cut to a byte or to 32 bits.
func kinds() (l []int) {
	for k := -8; k <= 16; k++ {
		l = append(l, k, 1<<8+k, 1<<32+k)
	}
	return append(l, math.MinInt, math.MinInt+1, math.MinInt+2, math.MaxInt)
}

// numbers returns integers around 0, around the powers of two and of ten, around the limit, and at the ends of their type.
func numbers() (l []int) {
	for n := -20; n <= 130; n++ {
		l = append(l, n, top+n, -top+n, math.MaxInt-130+n, math.MinInt+20+n)
	}
	for i := range 63 {
		l = append(l, 1<<i-1, 1<<i, 1<<i+1, -1<<i-1, -1<<i, -1<<i+1)
	}
	for n := 10; n < top; n *= 10 {
		l = append(l, n-1, n, n+1, -n-1, -n, 5*n/4, 3*n/2, -3*n/2, n/9*7)
	}
	slices.Sort(l)
	return slices.Compact(l)
}

// texts returns strings of all lengths around the limits, and with each byte at each end, in the middle and at the last place that a limit leaves.
func texts() (l []string) {
	for n := range 70 {
		l = append(l, letters(n), letters(n)+"b", letters(n)+" ", strings.Repeat("~", n))
	}
	for c := range 256 {
		b := string([]byte{byte(c)})
		l = append(l, b, "a"+b, b+"a", "a"+b+"a", letters(31)+b, letters(32)+b, letters(63)+b, letters(64)+b, b+letters(70))
	}
	l = append(l, "größe", "u7", "a b", "a\x00", letters(1000), letters(1<<16), strings.Repeat(`"`, 65), strings.Repeat(`\`, 33))
	slices.Sort(l)
	return slices.Compact(l)
}

// all returns values, valid or not: each kind with each number and each string, and what breaks several rules at once.
func all() (l []api.Value) {
	few := []string{"", "a", "~", " ", `"`, `\`, "\x7f", letters(32), letters(33), letters(64), letters(65), letters(64) + `"`, letters(32) + " "}
	for _, k := range kinds() {
		for _, n := range numbers() {
			l = append(l, api.Value{Kind: k, N: n})
		}
		for _, s := range texts() {
			l = append(l, api.Value{Kind: k, S: s})
		}
		for _, n := range []int{-2, -1, 0, 1, 2, 256, 1 << 32, top, top + 1, -top - 1, math.MinInt, math.MaxInt} {
			for _, s := range few {
				l = append(l, api.Value{Kind: k, N: n, S: s})
			}
		}
	}
	return l
}

// wantedCheck returns what the chapter says about Check.
func wantedCheck(v api.Value) api.Errno {
	name := map[int]string{0: "null", 1: "boolean", 2: "integer", 3: "decimal", 4: "text", 5: "key"}[v.Kind]
	hasText := name == "text" || name == "key"
	if name == "" || hasText != (v.S != "") && v.S != "" || (hasText || name == "null") && v.N != 0 || name == "boolean" && v.N>>1 != 0 {
		return 1
	}
	size := new(big.Int).Abs(big.NewInt(int64(v.N)))
	if size.Cmp(big.NewInt(top)) > 0 || name == "text" && len(v.S) > 64 || name == "key" && len(v.S) > 32 {
		return 2
	}
	if name == "text" && strings.Trim(v.S, printable) != "" || name == "key" && (v.S == "" || strings.Trim(v.S, printable[1:]) != "") {
		return 3
	}
	return 0
}

// wantedFormat returns what the chapter says about Format.
func wantedFormat(v api.Value) string {
	if wantedCheck(v) != 0 {
		return ""
	}
	switch v.Kind {
	case 0:
		return "null"
	case 1:
		return fmt.Sprint(v.N == 1)
	case 2:
		return fmt.Sprint(v.N)
	case 3:
		return big.NewRat(int64(v.N), 1000000).FloatString(6)
	case 4:
		return fmt.Sprintf("\"%s\"", v.S)
	}
	return fmt.Sprintf("@%s", v.S)
}

// wantedEncoding returns the encoding of v by its definition, as the standard library encodes numbers; no bytes if v is not valid.
func wantedEncoding(v api.Value) (b []byte) {
	if wantedCheck(v) != 0 {
		return nil
	}
	b = []byte{byte(v.Kind)}
	switch v.Kind {
	case 1:
		b = append(b, byte(v.N))
	case 2, 3:
		b = binary.AppendVarint(b, int64(v.N))
	case 4, 5:
		b = append(binary.AppendUvarint(b, uint64(len(v.S))), v.S...)
	}
	return b
}

// outcome is what Read returns.
type outcome struct {
	v    api.Value
	next int
	e    api.Errno
}

// read returns what Read returns.
func read(b []byte, at int) outcome {
	v, next, e := Read(b, at)
	return outcome{v, next, e}
}

// wantedUint returns what the chapter of layer 4 says about wire.ReadUint from the first byte of b on.
func wantedUint(b []byte) (n uint64, size int, e api.Errno) {
	first := b[:min(len(b), 10)]
	i := slices.IndexFunc(first, func(c byte) bool { return c < 128 })
	if i < 0 && len(first) < 10 {
		return 0, 0, api.ErrShort
	}
	if i < 0 || i == 9 && b[i] > 1 || i > 0 && b[i] == 0 {
		return 0, 0, api.ErrForm
	}
	n, size = binary.Uvarint(first)
	return n, size, api.OK
}

// wantedRead returns what the chapter says about Read.
func wantedRead(b []byte, at int) outcome {
	if at < 0 || at > len(b) {
		return outcome{e: api.ErrArg}
	}
	rest := b[at:]
	if len(rest) == 0 {
		return outcome{e: api.ErrShort}
	}
	v, size := api.Value{Kind: int(rest[0])}, 1
	switch rest = rest[1:]; {
	case v.Kind > 5:
		return outcome{e: api.ErrForm}
	case v.Kind == 1 && len(rest) == 0:
		return outcome{e: api.ErrShort}
	case v.Kind == 1 && rest[0] > 1:
		return outcome{e: api.ErrForm}
	case v.Kind == 1:
		v.N, size = int(rest[0]), 2
	case v.Kind > 1:
		n, digits, e := wantedUint(rest)
		if e != api.OK {
			return outcome{e: e}
		}
		size += digits
		if v.Kind < 4 {
			v.N = int(n>>1) ^ -int(n&1)
			break
		}
		if n > uint64(len(rest)-digits) {
			return outcome{e: api.ErrShort}
		}
		v.S = string(rest[digits:][:n])
		size += int(n)
	}
	if e := wantedCheck(v); e != api.OK {
		return outcome{e: e}
	}
	return outcome{v, at + size, api.OK}
}

// valid returns the valid ones of all values.
func valid() (l []api.Value) {
	for _, v := range all() {
		if wantedCheck(v) == api.OK {
			l = append(l, v)
		}
	}
	return distinct(l)
}

// distinct returns the different values of l in some order.
func distinct(l []api.Value) (d []api.Value) {
	seen := map[api.Value]bool{}
	for _, v := range l {
		if !seen[v] {
			seen[v] = true
			d = append(d, v)
		}
	}
	return d
}

// some returns few values of every kind, valid or not, for pairs and triples.
func some() (l []api.Value) {
	for _, k := range []int{math.MinInt, -1, 0, 1, 2, 3, 4, 5, 6, 256, math.MaxInt} {
		for _, n := range []int{math.MinInt, -top, -1, 0, 1, 5, top, math.MaxInt} {
			for _, s := range []string{"", "a", "ab", "b", "B", "\x00", "\xff", "ä", "a\x00"} {
				l = append(l, api.Value{Kind: k, N: n, S: s})
			}
		}
	}
	return l
}

// show prints a value so that long strings stay short.
func show(v api.Value) string {
	if len(v.S) > 80 {
		return fmt.Sprintf("{%d %d %d bytes %.20q...}", v.Kind, v.N, len(v.S), v.S)
	}
	return fmt.Sprintf("{%d %d %q}", v.Kind, v.N, v.S)
}

func TestCheckOfExamples(t *testing.T) {
	for _, x := range []struct {
		v    api.Value
		want api.Errno
	}{
		{null, api.OK},
		{no, api.OK},
		{yes, api.OK},
		{integer(-300), api.OK},
		{dec(1500000), api.OK},
		{text("a b"), api.OK},
		{key("u7"), api.OK},
		{api.Value{Kind: -1}, api.ErrArg},
		{api.Value{Kind: 6}, api.ErrArg},
		{api.Value{Kind: math.MinInt}, api.ErrArg},
		{api.Value{Kind: math.MaxInt}, api.ErrArg},
		{api.Value{Kind: api.NullV, N: 1}, api.ErrArg},
		{api.Value{Kind: api.NullV, S: "a"}, api.ErrArg},
		{api.Value{Kind: api.BoolV, N: 2}, api.ErrArg},
		{api.Value{Kind: api.BoolV, N: -1}, api.ErrArg},
		{api.Value{Kind: api.BoolV, S: "a"}, api.ErrArg},
		{api.Value{Kind: api.IntV, S: "a"}, api.ErrArg},
		{api.Value{Kind: api.DecV, S: "a"}, api.ErrArg},
		{api.Value{Kind: api.TextV, N: 1, S: "a"}, api.ErrArg},
		{api.Value{Kind: api.KeyV, N: 1, S: "a"}, api.ErrArg},
		{integer(top), api.OK},
		{integer(-top), api.OK},
		{integer(top + 1), api.ErrLimit},
		{integer(-top - 1), api.ErrLimit},
		{integer(math.MaxInt), api.ErrLimit},
		{integer(math.MinInt), api.ErrLimit},
		{dec(top), api.OK},
		{dec(-top), api.OK},
		{dec(top + 1), api.ErrLimit},
		{dec(-top - 1), api.ErrLimit},
		{dec(math.MinInt), api.ErrLimit},
		{text(""), api.OK},
		{text(letters(64)), api.OK},
		{text(letters(65)), api.ErrLimit},
		{key(letters(32)), api.OK},
		{key(letters(33)), api.ErrLimit},
		{key(""), api.ErrForm},
		{text("\x1f"), api.ErrForm},
		{text(" "), api.OK},
		{text("!"), api.OK},
		{text("~"), api.OK},
		{text("\x7f"), api.ErrForm},
		{text(`"`), api.ErrForm},
		{text(`\`), api.ErrForm},
		{text("ä"), api.ErrForm},
		{text(printable[:64]), api.OK},
		{text(printable[64:]), api.OK},
		{key("\x1f"), api.ErrForm},
		{key(" "), api.ErrForm},
		{key("!"), api.OK},
		{key("~"), api.OK},
		{key("\x7f"), api.ErrForm},
		{key(`"`), api.ErrForm},
		{key(`\`), api.ErrForm},
		{key(printable[1:33]), api.OK},
		{key(printable[33:65]), api.OK},
		{key(printable[65:]), api.OK},
		{api.Value{Kind: api.IntV, N: top + 1, S: "a"}, api.ErrArg},
		{api.Value{Kind: api.BoolV, N: top + 1}, api.ErrArg},
		{api.Value{Kind: api.TextV, N: 1, S: letters(65) + `"`}, api.ErrArg},
		{api.Value{Kind: api.KeyV, N: -1, S: ""}, api.ErrArg},
		{text(letters(64) + `"`), api.ErrLimit},
		{key(letters(32) + " "), api.ErrLimit},
		{api.Value{Kind: 6, N: top + 1, S: letters(65)}, api.ErrArg},
	} {
		if e := Check(x.v); e != x.want {
			t.Errorf("P5.1: Check of %s returns %d and not %d", show(x.v), e, x.want)
		}
	}
}

func TestCheck(t *testing.T) {
	found := map[api.Errno]int{}
	for _, v := range all() {
		want := wantedCheck(v)
		found[want]++
		if e := Check(v); e != want {
			t.Errorf("P5.1: Check of %s returns %d and not %d", show(v), e, want)
		}
	}
	for _, e := range []api.Errno{api.OK, api.ErrArg, api.ErrLimit, api.ErrForm} {
		if found[e] < 100 {
			t.Errorf("P5.1: only %d values lead to %d", found[e], e)
		}
	}
}

func TestHasOfExamples(t *testing.T) {
	for _, x := range []struct {
		v    api.Value
		t    api.Type
		want bool
	}{
		{null, api.Type{Kind: api.BoolV}, true},
		{null, api.Type{}, true},
		{null, api.Type{Kind: -5}, true},
		{null, api.Type{Kind: 77}, true},
		{integer(1), api.Type{Kind: api.DecV}, false},
		{integer(1), api.Type{Kind: api.IntV}, true},
		{integer(1), api.Type{}, false},
		{integer(1), api.Type{Kind: api.IntV, Unit: []api.Factor{{Name: "eur", Exp: 1}}}, true},
		{integer(1), api.Type{Kind: api.IntV, Unit: []api.Factor{{Name: "-", Exp: 99}, {}}, Of: "?"}, true},
		{integer(top + 1), api.Type{Kind: api.IntV}, false},
		{yes, api.Type{Kind: api.BoolV}, true},
		{api.Value{Kind: api.BoolV, N: 2}, api.Type{Kind: api.BoolV}, false},
		{key("u7"), api.Type{Kind: api.KeyV, Of: "user"}, true},
		{key("u7"), api.Type{Kind: api.KeyV}, true},
		{key("u7"), api.Type{Kind: api.TextV}, false},
		{key(""), api.Type{Kind: api.KeyV}, false},
		{text("u7"), api.Type{Kind: api.KeyV, Of: "user"}, false},
		{text(""), api.Type{Kind: api.TextV}, true},
		{text(letters(65)), api.Type{Kind: api.TextV}, false},
		{api.Value{S: "a"}, api.Type{Kind: api.NullV}, false},
		{api.Value{Kind: 6}, api.Type{Kind: 6}, false},
		{api.Value{Kind: -1}, api.Type{Kind: -1}, false},
	} {
		if ok := Has(x.v, x.t); ok != x.want {
			t.Errorf("P5.1: Has of %s and %+v is %t", show(x.v), x.t, ok)
		}
	}
}

func TestHas(t *testing.T) {
	for _, v := range all() {
		for _, k := range []int{math.MinInt, -1, 0, 1, 2, 3, 4, 5, 6, 256, v.Kind} {
			want := wantedCheck(v) == api.OK && slices.Contains([]int{0, k}, v.Kind)
			if ok := Has(v, api.Type{Kind: k, Of: "user"}); ok != want {
				t.Errorf("P5.1: Has of %s and the kind %d is %t", show(v), k, ok)
			}
		}
	}
}

func TestCompareOfExamples(t *testing.T) {
	ordered := []api.Value{
		{Kind: math.MinInt}, {Kind: -1, N: 9, S: "z"}, {N: -1}, null, {S: "a"}, {N: 1}, no, yes, {Kind: api.BoolV, N: 2},
		integer(math.MinInt), integer(-5), integer(5), integer(math.MaxInt), dec(-1), dec(0), dec(1),
		{Kind: api.TextV, N: -1, S: "b"}, text(""), text("\x00"), text("B"), text("a"), text("a "), text("ab"), text("b"), text("ä"),
		text("\xff"), {Kind: api.TextV, N: 1, S: "a"}, key(""), key("a"), {Kind: 6}, {Kind: 256}, {Kind: math.MaxInt},
	}
	for i, a := range ordered {
		for j, b := range ordered {
			want := big.NewInt(int64(i)).Cmp(big.NewInt(int64(j)))
			if n := Compare(a, b); n != want {
				t.Errorf("P5.2: Compare of %s and %s is %d and not %d", show(a), show(b), n, want)
			}
		}
	}
}

// wantedCompare returns what the chapter says about Compare.
func wantedCompare(a, b api.Value) int {
	if n := big.NewInt(int64(a.Kind)).Cmp(big.NewInt(int64(b.Kind))); n != 0 {
		return n
	}
	if n := big.NewInt(int64(a.N)).Cmp(big.NewInt(int64(b.N))); n != 0 {
		return n
	}
	return bytes.Compare([]byte(a.S), []byte(b.S))
}

func TestCompare(t *testing.T) {
	for _, a := range some() {
		for _, b := range some() {
			if n, want := Compare(a, b), wantedCompare(a, b); n != want {
				t.Errorf("P5.2: Compare of %s and %s is %d and not %d", show(a), show(b), n, want)
			}
			if n := Compare(a, b); n != -Compare(b, a) || (n == 0) != (a == b) {
				t.Errorf("P5.5: Compare of %s and %s is %d, and %d the other way round", show(a), show(b), n, Compare(b, a))
			}
		}
	}
}

// An order that sorts the values into one list, in which each value is less than all later ones, is a total one.
func TestCompareIsTotal(t *testing.T) {
	l := append(valid(), some()...)
	slices.SortFunc(l, Compare)
	l = slices.Compact(l)
	if len(l) != len(distinct(l)) {
		t.Errorf("P5.5: of %d sorted values, only %d are different", len(l), len(distinct(l)))
	}
	for i, a := range l {
		for j := i; j < len(l); j += 1 + (j-i)*7/5 {
			if n := Compare(a, l[j]); n != 0 && i == j || n != -1 && i < j {
				t.Errorf("P5.5: Compare of %s and the later %s is %d", show(a), show(l[j]), n)
			}
		}
	}
}

// rows are those of the chapter's examples whose values are valid.
func rows() (l []row) {
	return []row{
		{null, []byte{0}, "null"},
		{yes, []byte{1, 1}, "true"},
		{integer(-300), []byte{2, 215, 4}, "-300"},
		{dec(1500000), []byte{3, 192, 141, 183, 1}, "1.500000"},
		{text("a b"), []byte{4, 3, 97, 32, 98}, `"a b"`},
		{key("u7"), []byte{5, 2, 117, 55}, "@u7"},
		{no, []byte{1, 0}, "false"},
		{integer(0), []byte{2, 0}, "0"},
		{integer(-1), []byte{2, 1}, "-1"},
		{integer(7), []byte{2, 14}, "7"},
		{integer(top), append([]byte{2}, 128, 128, 128, 128, 128, 128, 128, 128, 32), "1152921504606846976"},
		{integer(-top), append([]byte{2}, 255, 255, 255, 255, 255, 255, 255, 255, 31), "-1152921504606846976"},
		{dec(0), []byte{3, 0}, "0.000000"},
		{dec(-1), []byte{3, 1}, "-0.000001"},
		{dec(top), append([]byte{3}, 128, 128, 128, 128, 128, 128, 128, 128, 32), "1152921504606.846976"},
		{text(""), []byte{4, 0}, `""`},
		{text("null"), []byte{4, 4, 'n', 'u', 'l', 'l'}, `"null"`},
		{text("@u7"), []byte{4, 3, '@', 'u', '7'}, `"@u7"`},
		{text(letters(64)), []byte("\x04\x40" + letters(64)), `"` + letters(64) + `"`},
		{key("1.5"), []byte{5, 3, '1', '.', '5'}, "@1.5"},
		{key("@"), []byte{5, 1, '@'}, "@@"},
		{key(letters(32)), []byte("\x05\x20" + letters(32)), "@" + letters(32)},
	}
}

// row is a valid value with its encoding and its text.
type row struct {
	v        api.Value
	encoding []byte
	text     string
}

func TestExamples(t *testing.T) {
	for _, x := range rows() {
		if c := Append(nil, x.v); !bytes.Equal(c, x.encoding) {
			t.Errorf("P5.3: Append of %s is %d and not %d", show(x.v), c, x.encoding)
		}
		if got, want := read(x.encoding, 0), (outcome{x.v, len(x.encoding), api.OK}); got != want {
			t.Errorf("P5.3: Read of %d is %v and not %v", x.encoding, got, want)
		}
		if s := Format(x.v); s != x.text {
			t.Errorf("P5.4: Format of %s is %q and not %q", show(x.v), s, x.text)
		}
		if v, e := Parse(x.text); v != x.v || e != api.OK {
			t.Errorf("P5.4: Parse of %q returns %s and %d", x.text, show(v), e)
		}
	}
}

// invalid are values that are not valid, by each of the rules.
func invalid() []api.Value {
	return []api.Value{
		{Kind: api.BoolV, N: 2}, {Kind: api.BoolV, N: -1}, {Kind: -1}, {Kind: 6}, {Kind: 256}, {Kind: 258, N: 7}, {N: 1}, {S: "a"}, {Kind: api.BoolV, S: "a"},
		{Kind: api.IntV, S: "a"}, {Kind: api.DecV, N: 5, S: "a"}, {Kind: api.TextV, N: 1, S: "a"}, {Kind: api.KeyV, N: 1, S: "a"},
		integer(top + 1), integer(-top - 1), integer(math.MaxInt), integer(math.MinInt), dec(top + 1), dec(-top - 1), dec(math.MinInt),
		text(letters(65)), key(letters(33)), key(""), key(" "), text(`"`), text(`a\`), key(`"`), key(`\`), text("\x1f"), text("\x7f"), text("ä"), key("\x80"),
	}
}

func TestInvalidValues(t *testing.T) {
	for _, v := range invalid() {
		for _, b := range [][]byte{nil, {}, {0}, []byte("before")} {
			if c := Append(b, v); !bytes.Equal(c, b) {
				t.Errorf("P5.3: Append of %s to %d is %d", show(v), b, c)
			}
		}
		if s := Format(v); s != "" {
			t.Errorf("P5.4: Format of %s is %q", show(v), s)
		}
	}
}

func TestAppend(t *testing.T) {
	for _, v := range all() {
		want := wantedEncoding(v)
		if c := Append(nil, v); !bytes.Equal(c, want) {
			t.Errorf("P5.3: Append of %s is %d and not %d", show(v), c, want)
		}
		if c := Append([]byte{1, 255}, v); !bytes.Equal(c, append([]byte{1, 255}, want...)) {
			t.Errorf("P5.3: Append of %s to two bytes is %d", show(v), c)
		}
	}
}

func TestAppendLeavesItsArgument(t *testing.T) {
	for _, first := range []api.Value{null, yes, integer(300), dec(-1), text("abc"), key("u7"), {Kind: 6}, key("")} {
		room := []byte("before and after it")
		b := room[:6]
		c := Append(b, first)
		d := Append(b, text("other"))
		if string(room) != "before and after it" {
			t.Errorf("P5.3: Append of %s writes to its argument: %q", show(first), room)
		}
		if !bytes.Equal(c, append([]byte("before"), wantedEncoding(first)...)) || string(d) != "before\x04\x05other" {
			t.Errorf("P5.3: after another Append, that of %s is %q", show(first), c)
		}
		clear(room)
		if !bytes.HasPrefix(c, []byte("before")) {
			t.Errorf("P5.3: Append of %s shares the memory of its argument", show(first))
		}
	}
}

func TestReadOfExamples(t *testing.T) {
	big := binary.AppendVarint([]byte{2}, top+1)
	small := binary.AppendVarint([]byte{3}, -top-1)
	for _, x := range []struct {
		b    []byte
		at   int
		want outcome
	}{
		{[]byte{1, 2}, 0, outcome{e: api.ErrForm}},
		{[]byte{1, 2}, 1, outcome{e: api.ErrShort}},
		{[]byte{1, 2}, 2, outcome{e: api.ErrShort}},
		{[]byte{1, 2}, 3, outcome{e: api.ErrArg}},
		{[]byte{1, 2}, -1, outcome{e: api.ErrArg}},
		{[]byte{1, 2}, math.MinInt, outcome{e: api.ErrArg}},
		{[]byte{1, 2}, math.MaxInt, outcome{e: api.ErrArg}},
		{nil, 0, outcome{e: api.ErrShort}},
		{[]byte{}, 0, outcome{e: api.ErrShort}},
		{nil, 1, outcome{e: api.ErrArg}},
		{nil, -1, outcome{e: api.ErrArg}},
		{[]byte{0}, 0, outcome{null, 1, api.OK}},
		{[]byte{0, 0}, 1, outcome{null, 2, api.OK}},
		{[]byte{0, 6}, 0, outcome{null, 1, api.OK}},
		{[]byte{6}, 0, outcome{e: api.ErrForm}},
		{[]byte{255}, 0, outcome{e: api.ErrForm}},
		{[]byte{130, 1}, 0, outcome{e: api.ErrForm}},
		{[]byte{1}, 0, outcome{e: api.ErrShort}},
		{[]byte{1, 0}, 0, outcome{no, 2, api.OK}},
		{[]byte{1, 1}, 0, outcome{yes, 2, api.OK}},
		{[]byte{1, 255}, 0, outcome{e: api.ErrForm}},
		{[]byte{2}, 0, outcome{e: api.ErrShort}},
		{[]byte{2, 128}, 0, outcome{e: api.ErrShort}},
		{[]byte{2, 128, 0}, 0, outcome{e: api.ErrForm}},
		{[]byte{9, 2, 14, 9}, 1, outcome{integer(7), 3, api.OK}},
		{[]byte{3, 1}, 0, outcome{dec(-1), 2, api.OK}},
		{big, 0, outcome{e: api.ErrLimit}},
		{small, 0, outcome{e: api.ErrLimit}},
		{[]byte{3, 255, 255, 255, 255, 255, 255, 255, 255, 255, 1}, 0, outcome{e: api.ErrLimit}},
		{[]byte{3, 255, 255, 255, 255, 255, 255, 255, 255, 255, 2}, 0, outcome{e: api.ErrForm}},
		{[]byte{4}, 0, outcome{e: api.ErrShort}},
		{[]byte{4, 0}, 0, outcome{text(""), 2, api.OK}},
		{[]byte{5, 0}, 0, outcome{e: api.ErrForm}},
		{[]byte{4, 2, 'a'}, 0, outcome{e: api.ErrShort}},
		{[]byte{4, 2, '"'}, 0, outcome{e: api.ErrShort}},
		{[]byte{4, 1, '"'}, 0, outcome{e: api.ErrForm}},
		{[]byte{4, 1, ' '}, 0, outcome{text(" "), 3, api.OK}},
		{[]byte{5, 1, ' '}, 0, outcome{e: api.ErrForm}},
		{[]byte{4, 129, 0, 'a'}, 0, outcome{e: api.ErrForm}},
		{[]byte("\x04\x40" + letters(64)), 0, outcome{text(letters(64)), 66, api.OK}},
		{[]byte("\x04\x41" + letters(65)), 0, outcome{e: api.ErrLimit}},
		{[]byte("\x04\x41" + letters(64)), 0, outcome{e: api.ErrShort}},
		{[]byte("\x04\x41" + letters(64) + `"`), 0, outcome{e: api.ErrLimit}},
		{[]byte("\x05\x20" + letters(32)), 0, outcome{key(letters(32)), 34, api.OK}},
		{[]byte("\x05\x21" + letters(33)), 0, outcome{e: api.ErrLimit}},
	} {
		if got := read(x.b, x.at); got != x.want {
			t.Errorf("P5.3: Read of %q at %d is %v and not %v", x.b, x.at, got, x.want)
		}
	}
}

// checkReads reads b from every offset on, and from invalid ones, and compares the outcomes with those that the chapter states. What is read must be what is appended.
func checkReads(t *testing.T, b []byte) {
	t.Helper()
	offsets := []int{math.MinInt, -1 << 32, -1, len(b) + 1, 1<<32 + 1, math.MaxInt}
	for at := range len(b) + 1 {
		offsets = append(offsets, at)
	}
	for _, at := range offsets {
		got := read(b, at)
		if want := wantedRead(b, at); got != want {
			t.Errorf("P5.3: Read of %q at %d is %v and not %v", b, at, got, want)
		}
		if got.e == api.OK && !bytes.Equal(Append(nil, got.v), b[at:got.next]) {
			t.Errorf("P5.5: Read of %q at %d accepts %d, which is not the encoding of %s", b, at, b[at:got.next], show(got.v))
		}
	}
}

// Read is tried with all strings of few bytes that begin, end, continue or break an encoding.
func TestReadOfShortBytes(t *testing.T) {
	l := [][]byte{nil}
	for range 4 {
		var longer [][]byte
		for _, b := range l {
			checkReads(t, b)
			for _, c := range []byte{0, 1, 2, 3, 4, 5, 6, 31, 32, 33, '"', '\\', 127, 128, 255} {
				longer = append(longer, append(slices.Clone(b), c))
			}
		}
		l = longer
	}
}

func TestReadOfEachByte(t *testing.T) {
	for k := range 10 {
		for c := range 256 {
			b := []byte{byte(k), byte(c)}
			checkReads(t, b)
			checkReads(t, append(b, letters(200)...))
			checkReads(t, []byte{byte(k), 1, byte(c)})
			checkReads(t, []byte{byte(k), 2, 'a', byte(c), 'a'})
		}
	}
}

func TestReadOfLongNumbers(t *testing.T) {
	for k := range 7 {
		for _, n := range numbers() {
			b := binary.AppendVarint([]byte{byte(k)}, int64(n))
			checkReads(t, b)
			checkReads(t, append(b, 128, 0))
		}
		for n := 7; n < 13; n++ {
			for last := range 4 {
				checkReads(t, append(append([]byte{byte(k)}, bytes.Repeat([]byte{255}, n)...), byte(last)))
			}
		}
	}
}

func TestReadOfStrings(t *testing.T) {
	for _, s := range texts() {
		for k := 4; k <= 5; k++ {
			b := append(binary.AppendUvarint([]byte{byte(k)}, uint64(len(s))), s...)
			for _, c := range [][]byte{b, append(slices.Clone(b), 4, 0), b[:len(b)-1]} {
				if got, want := read(c, 0), wantedRead(c, 0); got != want {
					t.Errorf("P5.3: Read of %.99q is %v and not %v", c, got, want)
				}
			}
		}
	}
}

func TestReadingBack(t *testing.T) {
	for _, v := range valid() {
		for _, before := range [][]byte{nil, {}, {5}, []byte("before")} {
			c := Append(before, v)
			want := outcome{v, len(c), api.OK}
			for _, after := range [][]byte{nil, {0}, {1}, {128}, {255}, []byte("\x04\x01a")} {
				b := append(slices.Clone(c), after...)
				if got := read(b, len(before)); got != want {
					t.Errorf("P5.5: Read of %q at %d is %v and not %v", b, len(before), got, want)
				}
			}
		}
	}
}

func TestBeginnings(t *testing.T) {
	for _, v := range valid() {
		b := Append([]byte{0}, v)
		for end := 1; end < len(b); end++ {
			if got := read(b[:end], 1); got != (outcome{e: api.ErrShort}) {
				t.Errorf("P5.5: Read of the beginning %q of %q is %v", b[1:end], b[1:], got)
			}
		}
	}
}

func TestReadLeavesItsArgument(t *testing.T) {
	b := []byte("\x04\x03abc")
	v, _, _ := Read(b, 0)
	if string(b) != "\x04\x03abc" {
		t.Errorf("P5.3: Read changes its argument to %q", b)
	}
	clear(b)
	if v != text("abc") {
		t.Errorf("P5.3: what Read returns becomes %s with its argument", show(v))
	}
}

func TestFormat(t *testing.T) {
	for _, v := range all() {
		if s, want := Format(v), wantedFormat(v); s != want {
			t.Errorf("P5.4: Format of %s is %q and not %q", show(v), s, want)
		}
	}
}

func TestParseOfNoTexts(t *testing.T) {
	for _, s := range []string{
		"", " ", "1.5", "-0", "01", "-01", "00", "+1", "1 ", " 1", "1_000", "0x1", "1e3", "--1", "-", "1-", "1152921504606846977", "-1152921504606846977",
		"9223372036854775808", "-9223372036854775809", "18446744073709551616", strings.Repeat("9", 1000), strings.Repeat("0", 1000),
		"1.", ".5", ".", "1.50000", "1.5000000", "01.500000", "-0.000000", "+1.500000", "1.500000 ", "1.50000a", "1152921504606.846977", "-1152921504606.846977", "9223372036854.775808", strings.Repeat("9", 1000) + ".000000",
		"Null", "NULL", "nul", "nulls", "null ", " null", "True", "TRUE", "t", "tru", "true ", "False", "fals", "0.0", "NaN", "Inf",
		`"`, `"a`, `a"`, `a`, `'a'`, `"""`, `"a""`, `""a`, `""""`, `"a" `, ` "a"`, `"\"`, `"\""`, `"a"b"`, "\"\x1f\"", "\"\x7f\"", "\"ä\"", "`a`", `"` + letters(65) + `"`, `"` + letters(1000) + `"`,
		"@", "@ ", "@a b", `@"`, `@\`, `@"u7"`, "u7", "u7@", " @u7", "@u7 ", "@\x1f", "@\x7f", "@ä", "@" + letters(33), "@" + letters(1000), `@a"`,
	} {
		if v, e := Parse(s); v != null || e != api.ErrForm {
			t.Errorf("P5.4: Parse of %.99q returns %s and %d", s, show(v), e)
		}
	}
}

// shapes are the texts of the values of each kind, but for the limits of numbers.
var shapes = []*regexp.Regexp{
	regexp.MustCompile(`^(?:null)$`),
	regexp.MustCompile(`^(?:true|false)$`),
	regexp.MustCompile(`^(?:0|-?[1-9][0-9]*)$`),
	regexp.MustCompile(`^(?:-?(?:0|[1-9][0-9]*)\.[0-9]{6})$`),
	regexp.MustCompile("^(?:\"[ !#-\\[\\]-~]{0,64}\")$"),
	regexp.MustCompile("^(?:@[!#-\\[\\]-~]{1,32})$"),
}

// wantedParse returns what the chapter says about Parse.
func wantedParse(s string) (v api.Value, e api.Errno) {
	k := slices.IndexFunc(shapes, func(r *regexp.Regexp) bool { return r.MatchString(s) })
	switch k {
	case 0:
		return null, api.OK
	case 1:
		return map[string]api.Value{"true": yes, "false": no}[s], api.OK
	case 2, 3:
		n, ok := new(big.Int).SetString(strings.Replace(s, ".", "", 1), 10)
		if ok && n.CmpAbs(big.NewInt(top)) <= 0 && s != "-0.000000" {
			return api.Value{Kind: k, N: int(n.Int64())}, api.OK
		}
	case 4:
		return text(s[1 : len(s)-1]), api.OK
	case 5:
		return key(s[1:]), api.OK
	}
	return null, api.ErrForm
}

func checkParse(t *testing.T, s string) {
	t.Helper()
	v, e := Parse(s)
	if want, code := wantedParse(s); v != want || e != code {
		t.Errorf("P5.4: Parse of %.99q returns %s and %d and not %s and %d", s, show(v), e, show(want), code)
	}
	if e == api.OK && Format(v) != s {
		t.Errorf("P5.4: Parse of %.99q returns %s, whose text is %q", s, show(v), Format(v))
	}
}

func TestParseOfShortTexts(t *testing.T) {
	l := []string{""}
	for range 5 {
		var longer []string
		for _, s := range l {
			checkParse(t, s)
			checkParse(t, "1.00000"+s)
			checkParse(t, "115292150460684697"+s)
			for _, c := range []string{"0", "1", "6", "9", "-", "+", ".", `"`, `\`, "@", " ", "a", "e", "_"} {
				longer = append(longer, s+c)
			}
		}
		l = longer
	}
}

// The texts of values are also tried with one byte more, less or changed.
func TestParseOfChangedTexts(t *testing.T) {
	for _, x := range rows() {
		for i := range len(x.text) + 1 {
			before, after := x.text[:i], x.text[i:]
			for c := range 256 {
				more := string([]byte{byte(c)})
				checkParse(t, before+more+after)
				if after != "" {
					checkParse(t, before+more+after[1:])
					checkParse(t, before+after[1:])
				}
			}
		}
	}
}

func TestParseOfLimits(t *testing.T) {
	for _, n := range numbers() {
		checkParse(t, fmt.Sprint(n))
		checkParse(t, fmt.Sprint(n, "0"))
		checkParse(t, big.NewRat(int64(n), 1000000).FloatString(6))
		checkParse(t, big.NewRat(int64(n), 100000).FloatString(5))
		checkParse(t, big.NewRat(int64(n), 1000000).FloatString(7))
	}
	for _, s := range texts() {
		checkParse(t, s)
		checkParse(t, "@"+s)
		checkParse(t, `"`+s+`"`)
		checkParse(t, `"`+s)
		checkParse(t, s+`"`)
	}
}

func TestParseUndoesFormat(t *testing.T) {
	owner := map[string]api.Value{}
	for _, v := range valid() {
		s := Format(v)
		if w, e := Parse(s); w != v || e != api.OK {
			t.Errorf("P5.5: Parse of %q returns %s and %d and not %s", s, show(w), e, show(v))
		}
		if other, ok := owner["text "+s]; ok {
			t.Errorf("P5.5: %s and %s have the same text %q", show(v), show(other), s)
		}
		c := Append(nil, v)
		if other, ok := owner["encoding "+string(c)]; ok {
			t.Errorf("P5.5: %s and %s have the same encoding %d", show(v), show(other), c)
		}
		owner["text "+s], owner["encoding "+string(c)] = v, v
	}
}

func TestDecimalsAreParsed(t *testing.T) {
	for _, n := range numbers() {
		v := dec(n)
		if Check(v) != api.OK {
			continue
		}
		if x, e := decimal.Parse(Format(v)); x != n || e != api.OK {
			t.Errorf("P5.5: decimal.Parse of the text %q of %d millionths returns %d and %d", Format(v), n, x, e)
		}
	}
}
