package wire

import (
	"bytes"
	"encoding/binary"
	"hash/crc32"
	"math"
	"math/big"
	"math/bits"
	"slices"
	"strconv"
	"strings"
	"testing"

	"asof/api"
)

// noise returns n fixed bytes without a visible pattern, others for each seed.
func noise(seed, n int) (b []byte) {
	x := uint64(seed)
	for range n {
		x = x*6364136223846793005 + 1442695040888963407
		b = append(b, byte((x^x>>29)>>24))
	}
	return b
}

// filled returns n bytes c.
func filled(c byte, n int) []byte {
	return bytes.Repeat([]byte{c}, n)
}

// join returns the bytes of all parts, one after the other, in memory of their own.
func join(parts ...[]byte) []byte {
	return bytes.Join(parts, nil)
}

// uints returns small integers, those at the ends of each number of binary digits (and so of digits in base 128), and some between them.
func uints() (l []uint64) {
	for n := range uint64(400) {
		l = append(l, n)
	}
	for i := range 64 {
		l = append(l, 1<<i-2, 1<<i-1, 1<<i, 1<<i+1, 3<<i, 0x9e3779b97f4a7c15>>i)
	}
	for n := range uint64(300) {
		l = append(l, math.MaxUint64-n, n*0x123456789abcdef1, n*n*n*n*n)
	}
	slices.Sort(l)
	return slices.Compact(l)
}

// ints returns the integers whose words are uints, and so the ends of their type, and what is near them and near 0.
func ints() (l []int) {
	for _, n := range uints() {
		l = append(l, int(n), -int(n), int(n>>1), -int(n>>1)-1)
	}
	slices.Sort(l)
	return slices.Compact(l)
}

// payloads returns no bytes, nil, and bytes whose lengths are at the ends of each number of digits, or around MaxRecord.
func payloads() (l [][]byte) {
	l = append(l, nil, []byte{}, []byte("123456789"))
	for n := range 20 {
		l = append(l, noise(n, n), filled(0, n), filled(255, n), filled(128, n))
	}
	for _, n := range []int{126, 127, 128, 129, 255, 256, 300, 8191, 8192} {
		l = append(l, noise(n, n), filled(0, n))
	}
	return l
}

// long returns payloads that are too long to be read as frames.
func long() (l [][]byte) {
	for _, n := range []int{8193, 8194, 10000, 16383, 16384, 16385, 70000} {
		l = append(l, noise(n, n), filled(7, n))
	}
	return l
}

// texts returns strings of the same lengths, with bytes of all values.
func texts() (l []string) {
	l = append(l, "ab", "a\x00b", "größe", "\xff\xfe", "\x80")
	for _, b := range append(payloads(), long()...) {
		l = append(l, string(b))
	}
	return l
}

// digitsOf returns the encoding of n by its definition.
func digitsOf(n *big.Int) (b []byte) {
	n = new(big.Int).Set(n)
	for {
		digit := new(big.Int)
		n.QuoRem(n, big.NewInt(128), digit)
		if n.Sign() == 0 {
			return append(b, byte(digit.Int64()))
		}
		b = append(b, byte(digit.Int64()+128))
	}
}

// uintBytes returns the encoding of an unsigned integer by its definition.
func uintBytes(n uint64) []byte {
	return digitsOf(new(big.Int).SetUint64(n))
}

// intBytes returns the encoding of an integer by its definition.
func intBytes(n int) []byte {
	if n >= 0 {
		return digitsOf(new(big.Int).Mul(big.NewInt(2), big.NewInt(int64(n))))
	}
	x := new(big.Int).Mul(big.NewInt(-2), big.NewInt(int64(n)))
	return digitsOf(x.Sub(x, big.NewInt(1)))
}

// textBytes returns the encoding of a string by its definition.
func textBytes(s string) []byte {
	return join(uintBytes(uint64(len(s))), []byte(s))
}

// crcBytes returns the checksum of a payload in four bytes, by the standard library.
func crcBytes(payload []byte) []byte {
	return binary.LittleEndian.AppendUint32(nil, crc32.ChecksumIEEE(payload))
}

// frameBytes returns the frame of a payload by its definition.
func frameBytes(payload []byte) []byte {
	return join(uintBytes(uint64(len(payload))), payload, crcBytes(payload))
}

// encoded is a value of a kind, printed, with its encoding by the definition and what a function appends for it.
type encoded struct {
	value  string
	want   []byte
	append func(b []byte) []byte
}

// outcome is what a function reads, its value printed; the value of an error is that of no value.
type outcome struct {
	value string
	next  int
	e     api.Errno
}

// kind is a kind of encodings: how its values are read, what the chapter says about this, and values.
type kind struct {
	name   string
	read   func(b []byte, at int) outcome
	wanted func(b []byte, at int) outcome
	values []encoded
}

func printUint(n uint64) string { return strconv.FormatUint(n, 10) }

func printText[T ~string | ~[]byte](s T) string {
	if len(s) > 40 {
		return strconv.Itoa(len(s)) + " bytes with the checksum " + strconv.Itoa(int(crc32.ChecksumIEEE([]byte(s))))
	}
	return strconv.Quote(string(s))
}

// newKind returns the kind with this name, whose values are printed, read and appended by these functions.
func newKind[T any](name string, printed func(v T) string, values []T, encoding func(v T) []byte, appended func(b []byte, v T) []byte, read, wanted func(b []byte, at int) (T, int, api.Errno)) kind {
	outcomes := func(f func(b []byte, at int) (T, int, api.Errno)) func(b []byte, at int) outcome {
		return func(b []byte, at int) outcome {
			v, next, e := f(b, at)
			return outcome{printed(v), next, e}
		}
	}
	k := kind{name: name, read: outcomes(read), wanted: outcomes(wanted)}
	for _, v := range values {
		k.values = append(k.values, encoded{printed(v), encoding(v), func(b []byte) []byte { return appended(b, v) }})
	}
	return k
}

func uintKind() kind {
	return newKind("Uint", printUint, uints(), uintBytes, AppendUint, ReadUint, wantedUint)
}

func intKind() kind {
	return newKind("Int", strconv.Itoa, ints(), intBytes, AppendInt, ReadInt, wantedInt)
}

func textKind() kind {
	return newKind("Text", printText[string], texts(), textBytes, AppendText, ReadText, wantedText)
}

func frameKind() kind {
	return newKind("Frame", printText[[]byte], payloads(), frameBytes, AppendFrame, ReadFrame, wantedFrame)
}

func kinds() []kind {
	return []kind{uintKind(), intKind(), textKind(), frameKind()}
}

// wantedUint returns what the chapter says about ReadUint.
func wantedUint(b []byte, at int) (n uint64, next int, e api.Errno) {
	if at < 0 || at > len(b) {
		return 0, 0, api.ErrArg
	}
	first := b[at:min(at+10, len(b))]
	i := slices.IndexFunc(first, func(c byte) bool { return c < 128 })
	if i < 0 && len(first) < 10 {
		return 0, 0, api.ErrShort
	}
	if i < 0 || i == 9 && first[i] > 1 || i > 0 && first[i] == 0 {
		return 0, 0, api.ErrForm
	}
	sum := new(big.Int)
	for _, c := range slices.Backward(first[:i+1]) {
		sum.Add(sum.Lsh(sum, 7), big.NewInt(int64(c)%128))
	}
	return sum.Uint64(), at + i + 1, api.OK
}

// wantedInt returns what the chapter says about ReadInt.
func wantedInt(b []byte, at int) (n int, next int, e api.Errno) {
	word, next, e := wantedUint(b, at)
	x := new(big.Int).SetUint64(word)
	if x.Bit(0) == 1 {
		x.Neg(x.Add(x, big.NewInt(1)))
	}
	return int(x.Quo(x, big.NewInt(2)).Int64()), next, e
}

// wantedText returns what the chapter says about ReadText.
func wantedText(b []byte, at int) (s string, next int, e api.Errno) {
	n, next, e := wantedUint(b, at)
	if e != api.OK {
		return "", 0, e
	}
	if uint64(len(b[next:])) < n {
		return "", 0, api.ErrShort
	}
	return string(b[next : next+int(n)]), next + int(n), api.OK
}

// wantedFrame returns what the chapter says about ReadFrame.
func wantedFrame(b []byte, at int) (payload []byte, next int, e api.Errno) {
	n, next, e := wantedUint(b, at)
	if e != api.OK {
		return nil, 0, e
	}
	if n > 8192 {
		return nil, 0, api.ErrLimit
	}
	end := next + int(n)
	if len(b) < end+4 {
		return nil, 0, api.ErrShort
	}
	if !bytes.Equal(b[end:end+4], crcBytes(b[next:end])) {
		return nil, 0, api.ErrSum
	}
	return b[next:end], end + 4, api.OK
}

// check reads b from the offset on as each kind and compares the outcomes with those that the chapter states.
func check(t *testing.T, all []kind, b []byte, at int) {
	t.Helper()
	for _, k := range all {
		if got, want := k.read(b, at), k.wanted(b, at); got != want {
			t.Errorf("P4.1: Read%s of %s at %d is %v and not %v", k.name, printText(b), at, got, want)
		}
	}
}

// checkAll checks b from every offset on, and from invalid ones.
func checkAll(t *testing.T, all []kind, b []byte) {
	t.Helper()
	for _, at := range []int{math.MinInt, -1 << 32, -2, -1, len(b) + 1, len(b) + 2, 1<<32 + 1, math.MaxInt} {
		check(t, all, b, at)
	}
	for at := range len(b) + 1 {
		check(t, all, b, at)
	}
}

func TestExampleAppends(t *testing.T) {
	for _, x := range []struct {
		call      string
		got, want []byte
	}{
		{"AppendUint of 0", AppendUint(nil, 0), []byte{0}},
		{"AppendUint of 127", AppendUint(nil, 127), []byte{127}},
		{"AppendUint of 128", AppendUint(nil, 128), []byte{128, 1}},
		{"AppendUint of 300", AppendUint(nil, 300), []byte{172, 2}},
		{"AppendUint of 16383", AppendUint(nil, 16383), []byte{255, 127}},
		{"AppendUint of 16384", AppendUint(nil, 16384), []byte{128, 128, 1}},
		{"AppendUint of 2^63 - 1", AppendUint(nil, 1<<63-1), append(filled(255, 8), 127)},
		{"AppendUint of 2^63", AppendUint(nil, 1<<63), append(filled(128, 9), 1)},
		{"AppendUint of 2^64 - 1", AppendUint(nil, math.MaxUint64), append(filled(255, 9), 1)},
		{"AppendInt of 0", AppendInt(nil, 0), []byte{0}},
		{"AppendInt of -1", AppendInt(nil, -1), []byte{1}},
		{"AppendInt of 1", AppendInt(nil, 1), []byte{2}},
		{"AppendInt of -2", AppendInt(nil, -2), []byte{3}},
		{"AppendInt of 63", AppendInt(nil, 63), []byte{126}},
		{"AppendInt of -64", AppendInt(nil, -64), []byte{127}},
		{"AppendInt of 64", AppendInt(nil, 64), []byte{128, 1}},
		{"AppendInt of the greatest", AppendInt(nil, math.MaxInt), append(append([]byte{254}, filled(255, 8)...), 1)},
		{"AppendInt of the least", AppendInt(nil, math.MinInt), append(filled(255, 9), 1)},
		{"AppendText of ab", AppendText(nil, "ab"), []byte{2, 97, 98}},
		{"AppendText of no bytes", AppendText(nil, ""), []byte{0}},
		{"AppendFrame of 123456789", AppendFrame(nil, []byte("123456789")), append([]byte("\x09123456789"), 38, 57, 244, 203)},
		{"AppendFrame of no bytes", AppendFrame(nil, []byte{}), []byte{0, 0, 0, 0, 0}},
		{"AppendFrame of nil", AppendFrame(nil, nil), []byte{0, 0, 0, 0, 0}},
		{"AppendFrame of a", AppendFrame([]byte("x"), []byte("a")), []byte{'x', 1, 'a', 0x43, 0xbe, 0xb7, 0xe8}},
	} {
		if !bytes.Equal(x.got, x.want) {
			t.Errorf("P4.1: %s is %d and not %d", x.call, x.got, x.want)
		}
	}
}

func TestExampleReads(t *testing.T) {
	frame := append([]byte("\x09123456789"), 38, 57, 244, 203)
	other := append([]byte("\x09123456789"), 38, 57, 244, 204)
	for _, x := range []struct {
		k    kind
		b    []byte
		at   int
		want outcome
	}{
		{uintKind(), []byte{172, 2, 7}, 0, outcome{"300", 2, api.OK}},
		{uintKind(), []byte{172, 2, 7}, 1, outcome{"2", 2, api.OK}},
		{uintKind(), []byte{172, 2, 7}, 2, outcome{"7", 3, api.OK}},
		{uintKind(), []byte{172, 2, 7}, 3, outcome{"0", 0, api.ErrShort}},
		{uintKind(), []byte{172, 2, 7}, 4, outcome{"0", 0, api.ErrArg}},
		{uintKind(), []byte{172, 2, 7}, -1, outcome{"0", 0, api.ErrArg}},
		{uintKind(), []byte{128, 0}, 0, outcome{"0", 0, api.ErrForm}},
		{uintKind(), []byte{172}, 0, outcome{"0", 0, api.ErrShort}},
		{uintKind(), filled(255, 10), 0, outcome{"0", 0, api.ErrForm}},
		{uintKind(), filled(255, 10), 1, outcome{"0", 0, api.ErrShort}},
		{uintKind(), []byte{}, 0, outcome{"0", 0, api.ErrShort}},
		{uintKind(), nil, 0, outcome{"0", 0, api.ErrShort}},
		{uintKind(), nil, 1, outcome{"0", 0, api.ErrArg}},
		{uintKind(), nil, -1, outcome{"0", 0, api.ErrArg}},
		{uintKind(), append(filled(255, 9), 1), 0, outcome{"18446744073709551615", 10, api.OK}},
		{uintKind(), append(filled(128, 9), 1), 0, outcome{"9223372036854775808", 10, api.OK}},
		{uintKind(), append(filled(128, 9), 0), 0, outcome{"0", 0, api.ErrForm}},
		{uintKind(), append(filled(128, 9), 2), 0, outcome{"0", 0, api.ErrForm}},
		{intKind(), append(filled(255, 9), 1), 0, outcome{"-9223372036854775808", 10, api.OK}},
		{intKind(), append(append([]byte{254}, filled(255, 8)...), 1), 0, outcome{"9223372036854775807", 10, api.OK}},
		{intKind(), []byte{3}, 0, outcome{"-2", 1, api.OK}},
		{textKind(), []byte{3, 97, 98}, 0, outcome{`""`, 0, api.ErrShort}},
		{textKind(), []byte{3, 97, 98, 99}, 0, outcome{`"abc"`, 4, api.OK}},
		{textKind(), []byte{0}, 0, outcome{`""`, 1, api.OK}},
		{frameKind(), frame, 0, outcome{`"123456789"`, 14, api.OK}},
		{frameKind(), other, 0, outcome{`""`, 0, api.ErrSum}},
		{frameKind(), make([]byte, 5), 0, outcome{`""`, 5, api.OK}},
		{frameKind(), make([]byte, 4), 0, outcome{`""`, 0, api.ErrShort}},
		{frameKind(), []byte{128, 64}, 0, outcome{`""`, 0, api.ErrShort}},
		{frameKind(), []byte{129, 64}, 0, outcome{`""`, 0, api.ErrLimit}},
	} {
		if got := x.k.read(x.b, x.at); got != x.want {
			t.Errorf("P4.1: Read%s of %v at %d is %v and not %v", x.k.name, x.b, x.at, got, x.want)
		}
	}
}

func TestAppends(t *testing.T) {
	for _, k := range kinds() {
		for _, x := range k.values {
			for _, b := range [][]byte{nil, {}, {0}, []byte("before")} {
				if c := x.append(b); !bytes.Equal(c, join(b, x.want)) {
					t.Errorf("P4.1: Append%s of %s to %d is %s and not %s", k.name, x.value, b, printText(c), printText(join(b, x.want)))
				}
			}
		}
	}
}

// The standard library encodes integers in the same way.
func TestAppendsOfAnotherLibrary(t *testing.T) {
	for _, n := range uints() {
		if c := AppendUint(nil, n); !bytes.Equal(c, binary.AppendUvarint(nil, n)) {
			t.Errorf("P4.1: AppendUint of %d is %d", n, c)
		}
	}
	for _, n := range ints() {
		if c := AppendInt(nil, n); !bytes.Equal(c, binary.AppendVarint(nil, int64(n))) {
			t.Errorf("P4.1: AppendInt of %d is %d", n, c)
		}
	}
}

func TestLongPayloadsAreAppended(t *testing.T) {
	for _, p := range append(payloads(), long()...) {
		for _, b := range [][]byte{nil, []byte("before")} {
			c := AppendFrame(b, p)
			if !bytes.Equal(c, join(b, frameBytes(p))) {
				t.Errorf("P4.1: AppendFrame of %d bytes is %s", len(p), printText(c))
			}
			if _, _, e := ReadFrame(c, len(b)); (e == api.ErrLimit) != (len(p) > 8192) {
				t.Errorf("P4.1: ReadFrame of a frame with %d bytes returns the error %d", len(p), e)
			}
		}
	}
}

// Every kind is read from all strings of few bytes, each of which ends, continues or zeroes a digit.
func TestReadsOfShortBytes(t *testing.T) {
	all := kinds()
	l := [][]byte{nil}
	for range 5 {
		var longer [][]byte
		for _, b := range l {
			checkAll(t, all, b)
			for _, c := range []byte{0, 1, 2, 3, 127, 128, 129, 255} {
				longer = append(longer, append(slices.Clone(b), c))
			}
		}
		l = longer
	}
}

func TestReadsOfEachByte(t *testing.T) {
	all := kinds()
	for c := range 256 {
		for _, before := range []int{0, 1, 2, 8, 9, 10} {
			b := append(filled(128, before), byte(c))
			checkAll(t, all, b)
			checkAll(t, all, append(b, noise(c, 140)...))
		}
	}
}

func TestReadsAroundTenBytes(t *testing.T) {
	all := kinds()
	for n := range 14 {
		for _, more := range []byte{128, 129, 200, 254, 255} {
			for _, last := range []byte{0, 1, 2, 3, 64, 127} {
				for _, first := range []byte{more, 128, 131} {
					b := append(filled(more, n), last)
					if n > 0 {
						b[0] = first
					}
					checkAll(t, all, b)
					checkAll(t, all, append(b, 0, 1, 2, 3, 4, 5))
				}
			}
		}
	}
}

// lengths returns integers that lengths may claim: small ones, those around MaxRecord, and those that are no ints or whose sums are none.
func lengths() (l []uint64) {
	for n := range uint64(140) {
		l = append(l, n)
	}
	for _, n := range []uint64{8192, 1 << 14, 1 << 16, 1 << 31, 1 << 32, 1 << 62, 1 << 63} {
		for d := range uint64(12) {
			l = append(l, n+d, n-1-d)
		}
	}
	for d := range uint64(20) {
		l = append(l, math.MaxUint64-d)
	}
	return l
}

func TestReadsOfLengths(t *testing.T) {
	all := kinds()
	for _, n := range lengths() {
		for _, before := range []string{"", "xyz"} {
			b := join([]byte(before), uintBytes(n))
			for _, follow := range []int{0, 1, 3, 4, 5, 126, 127, 128, 131, 132} {
				check(t, all, join(b, noise(3, follow)), len(before))
			}
			if n > 20000 {
				continue
			}
			for d := range 8 {
				if follow := int(n) + d - 1; follow >= 0 {
					check(t, all, join(b, filled(0, follow)), len(before))
				}
			}
		}
	}
}

func TestReadsOfFrames(t *testing.T) {
	all := kinds()
	for _, p := range append(payloads(), long()...) {
		frame := frameBytes(p)
		for _, b := range [][]byte{frame, join(frame, noise(5, 9)), join([]byte{1, 2, 128}, frame, frame)} {
			for _, at := range []int{0, 1, 2, 3, 4, len(b) - 4, len(b) - 3, len(b) - 1, len(b), len(b) + 1} {
				check(t, all, b, at)
			}
		}
	}
}

func TestReadsOfNoise(t *testing.T) {
	all := kinds()
	for seed := range 60 {
		b := noise(seed, 60)
		for i := range b {
			if i%3 > 0 {
				b[i] %= 24
			}
		}
		checkAll(t, all, b)
	}
}

// The code of a later check counts only if those before it pass.
func TestOrderOfErrors(t *testing.T) {
	short, form, limit := []byte{129}, []byte{129, 0}, uintBytes(8193)
	for _, x := range []struct {
		call string
		b    []byte
		at   int
		e    api.Errno
	}{
		{"a malformed length at an offset beyond the end", form, 3, api.ErrArg},
		{"a malformed length at a negative offset", form, -1, api.ErrArg},
		{"a length that ends too early", short, 0, api.ErrShort},
		{"a malformed length without anything after it", form, 0, api.ErrForm},
		{"a length beyond the limit without anything after it", limit, 0, api.ErrLimit},
		{"a length beyond the limit with a wrong checksum", join(limit, noise(1, 8197)), 0, api.ErrLimit},
		{"a payload of the greatest length without its checksum", join(uintBytes(8192), noise(1, 8195)), 0, api.ErrShort},
		{"a payload of the greatest length with a wrong checksum", join(uintBytes(8192), noise(1, 8196)), 0, api.ErrSum},
	} {
		if p, next, e := ReadFrame(x.b, x.at); e != x.e || next != 0 || len(p) != 0 {
			t.Errorf("P4.1: ReadFrame of %s returns %s, %d and the error %d, which should be %d", x.call, printText(p), next, e, x.e)
		}
	}
	if s, next, e := ReadText(form, 0); e != api.ErrForm || next != 0 || s != "" {
		t.Errorf("P4.1: ReadText of a malformed length returns %q, %d and the error %d", s, next, e)
	}
}

// What is appended is written neither into b nor after its end, nor into another result.
func TestAppendsStayApart(t *testing.T) {
	for _, k := range kinds() {
		for i, x := range k.values {
			y := k.values[(i+7)%len(k.values)]
			for _, n := range []int{0, 5} {
				memory := filled(0xAA, n+len(x.want)+len(y.want)+20)
				b, before := memory[:n], slices.Clone(memory)
				first, second := x.append(b), y.append(b)
				if !bytes.Equal(memory, before) {
					t.Errorf("P4.1: Append%s of %s has written into the memory of its argument", k.name, x.value)
				}
				if !bytes.Equal(first, join(b, x.want)) || !bytes.Equal(second, join(b, y.want)) {
					t.Errorf("P4.1: Append%s of %s and of %s to the same bytes disturb each other", k.name, x.value, y.value)
				}
				for j := range first {
					first[j]++
				}
				if !bytes.Equal(memory, before) || !bytes.Equal(second, join(b, y.want)) {
					t.Errorf("P4.1: the result of Append%s of %s shares memory", k.name, x.value)
				}
			}
		}
	}
}

// Nor does appending to a result change another one.
func TestAppendsToResults(t *testing.T) {
	for _, k := range kinds() {
		for i, x := range k.values {
			y := k.values[(i+3)%len(k.values)]
			c := x.append([]byte("b"))
			first, second := x.append(c), y.append(c)
			third := AppendUint(c, 200)
			if !bytes.Equal(first, join([]byte("b"), x.want, x.want)) || !bytes.Equal(second, join([]byte("b"), x.want, y.want)) || !bytes.Equal(third, join([]byte("b"), x.want, []byte{200, 1})) {
				t.Errorf("P4.1: what Append%s appends to the result for %s disturbs another result", k.name, x.value)
			}
		}
	}
}

// A payload may be a part of the bytes to which its frame is appended, or lie after their end.
func TestPayloadInTheSameMemory(t *testing.T) {
	memory := noise(4, 300)
	before := slices.Clone(memory)
	for _, n := range []int{0, 1, 9, 127, 128, 200} {
		for _, from := range []int{0, 1, 5, 90} {
			c := AppendFrame(memory[:n], memory[from:from+n])
			if !bytes.Equal(c, join(before[:n], frameBytes(before[from:from+n]))) || !bytes.Equal(memory, before) {
				t.Errorf("P4.1: AppendFrame to %d bytes of the payload from %d on: %s", n, from, printText(c))
			}
		}
	}
}

// The readers change nothing, and a payload has memory of its own.
func TestReadsStayApart(t *testing.T) {
	for _, p := range payloads() {
		for _, after := range [][]byte{nil, {0xAA}, noise(3, 40)} {
			memory := join([]byte("before"), frameBytes(p), after)
			before := slices.Clone(memory)
			first, _, _ := ReadFrame(memory, 6)
			second, _, _ := ReadFrame(memory, 6)
			ReadUint(memory, 0)
			ReadInt(memory, 0)
			ReadText(memory, 6)
			for i := range first {
				first[i]++
			}
			_ = append(first, filled(0xBB, 60)...)
			if !bytes.Equal(memory, before) {
				t.Errorf("P4.1: reading %s, and changing what was read, has changed the argument", printText(p))
			}
			if !bytes.Equal(second, p) {
				t.Errorf("P4.1: two results of ReadFrame of %s share memory", printText(p))
			}
		}
	}
}

// Neither a reader nor a writer depends on what lies before or after its bytes, or on an earlier call.
func TestOnlyTheBytesCount(t *testing.T) {
	all := kinds()
	for _, k := range all {
		for _, x := range k.values {
			if len(x.want) > 40 {
				continue
			}
			for cut := range len(x.want) {
				memory := join([]byte{128, 255}, x.want, x.want)
				part := memory[2 : 2+cut]
				for range 2 {
					for at := range cut + 1 {
						check(t, all, part, at)
					}
				}
			}
		}
	}
}

func TestReadingBack(t *testing.T) {
	for _, k := range kinds() {
		for _, x := range k.values {
			for _, before := range [][]byte{nil, {0}, {128, 255}, noise(2, 17)} {
				for _, after := range [][]byte{nil, {0}, {1}, {128}, filled(255, 12), filled(0, 12), x.want} {
					c := x.append(before)
					want := outcome{x.value, len(c), api.OK}
					if got := k.read(join(c, after), len(before)); got != want {
						t.Errorf("P4.2: of %s, appended to %d bytes and followed by %d, Read%s reads %v", x.value, len(before), len(after), k.name, got)
					}
				}
			}
		}
	}
}

// Values of all kinds are appended one after the other, and read in this order.
func TestReadingBackInARow(t *testing.T) {
	all := kinds()
	var c []byte
	for i := range 300 {
		for _, k := range all {
			if x := k.values[i%len(k.values)]; len(x.want) < 400 {
				c = x.append(c)
			}
		}
	}
	at := 0
	for i := range 300 {
		for _, k := range all {
			x := k.values[i%len(k.values)]
			if len(x.want) >= 400 {
				continue
			}
			got := k.read(c, at)
			if got != (outcome{x.value, at + len(x.want), api.OK}) {
				t.Fatalf("P4.2: of %s at %d, Read%s reads %v", x.value, at, k.name, got)
			}
			at = got.next
		}
	}
	if at != len(c) {
		t.Error("P4.2: the last offset is", at, "of", len(c))
	}
}

func TestOneEncoding(t *testing.T) {
	read := 0
	single := func(b []byte, at int) {
		if n, next, e := ReadUint(b, at); e == api.OK {
			read++
			if c := AppendUint(b[:at], n); !bytes.Equal(c, b[:next]) {
				t.Errorf("P4.3: ReadUint of %d at %d is %d, whose encoding is %d", b, at, n, c[at:])
			}
		}
		if n, next, e := ReadInt(b, at); e == api.OK {
			read++
			if c := AppendInt(b[:at], n); !bytes.Equal(c, b[:next]) {
				t.Errorf("P4.3: ReadInt of %d at %d is %d, whose encoding is %d", b, at, n, c[at:])
			}
		}
		if s, next, e := ReadText(b, at); e == api.OK {
			read++
			if c := AppendText(b[:at], s); !bytes.Equal(c, b[:next]) {
				t.Errorf("P4.3: ReadText of %d at %d is %q, whose encoding is %d", b, at, s, c[at:])
			}
		}
	}
	for x := range 256 {
		for y := range 256 {
			b := []byte{128, byte(x), byte(y), 3}
			single(b, 1)
			single(b[:3], 1)
			for _, n := range []int{6, 7, 8} {
				long := join(filled(150, n), []byte{byte(x), byte(y), 1})
				single(long, 0)
				single(long, 2)
			}
		}
	}
	if read < 100000 {
		t.Error("P4.3: only", read, "values were read")
	}
}

func TestNoEncodingBeginsAnother(t *testing.T) {
	for _, k := range kinds() {
		var l []string
		for _, x := range k.values {
			l = append(l, string(x.append(nil)))
		}
		slices.Sort(l)
		l = slices.Compact(l)
		for i := range l[1:] {
			// In the order of bytes, what begins with an encoding follows directly after it.
			if strings.HasPrefix(l[i+1], l[i]) {
				t.Errorf("P4.3: Append%s: the encoding %s begins the encoding %s", k.name, printText(l[i]), printText(l[i+1]))
			}
		}
		if len(l) < 60 {
			t.Error("P4.3: only", len(l), "encodings were compared")
		}
	}
}

func TestProperBeginnings(t *testing.T) {
	for _, k := range kinds() {
		for _, x := range k.values {
			c := x.append([]byte{7, 200})
			none := outcome{k.read(nil, -1).value, 0, api.ErrShort}
			for end := 2; end < len(c); end++ {
				if got := k.read(slices.Clip(c[:end]), 2); got != none {
					t.Errorf("P4.3: of %d of %d bytes of the encoding of %s, Read%s reads %v", end-2, len(c)-2, x.value, k.name, got)
				}
			}
		}
	}
}

func TestLengths(t *testing.T) {
	before := 0
	for _, n := range uints() {
		length := len(AppendUint(nil, n))
		if want := max(1, (bits.Len64(n)+6)/7); length != want {
			t.Errorf("P4.4: the encoding of %d has %d bytes and not %d", n, length, want)
		}
		if length < before {
			t.Errorf("P4.4: the encoding of %d is shorter than that of a smaller integer", n)
		}
		before = length
	}
	if before != 10 {
		t.Error("P4.4: the encoding of the greatest integer has", before, "bytes")
	}
}

// damaged returns c with the bits inverted that are 1 in the pattern, from the given bit of the bytes from..to-1 on, and whether all of them are bits of these.
func damaged(c []byte, from, to, first int, pattern uint32) (d []byte, ok bool) {
	if first+bits.Len32(pattern) > 8*(to-from) {
		return nil, false
	}
	d = slices.Clone(c)
	for i := range bits.Len32(pattern) {
		d[from+(first+i)/8] ^= byte(pattern>>i&1) << ((first + i) % 8)
	}
	return d, true
}

// patterns returns changes of up to 32 bits whose first bit is changed: of one bit, of two, of all in a row, and others.
func patterns() (l []uint32) {
	for i := range 32 {
		l = append(l, 1|1<<i, 1<<i|(1<<i-1))
	}
	for _, c := range slices.Collect(slices.Chunk(noise(9, 160), 4)) {
		l = append(l, binary.LittleEndian.Uint32(c)|1, binary.LittleEndian.Uint32(c)|1|1<<31)
	}
	return append(l, 0xEDB88321, 0xDB710641) // near the polynomial, and its bits without the highest power
}

// damage inverts each pattern at the given bit of a part of the frame c, and returns how many changes there are.
func damage(t *testing.T, c []byte, from, to, first int) (tried int) {
	t.Helper()
	for _, pattern := range patterns() {
		d, ok := damaged(c, from, to, first, pattern)
		if !ok {
			continue
		}
		tried++
		if p, next, e := ReadFrame(d, 0); e != api.ErrSum || next != 0 || len(p) != 0 {
			t.Fatalf("P4.5: with the bits %#x from %d on inverted, ReadFrame of %s returns %s, %d and the error %d", pattern, 8*from+first, printText(c), printText(p), next, e)
		}
	}
	return tried
}

func TestDamage(t *testing.T) {
	tried := 0
	for _, n := range []int{1, 2, 3, 4, 5, 8, 9, 40, 127, 128} {
		for _, p := range [][]byte{filled(0, n), filled(255, n), noise(n, n)} {
			c := AppendFrame(nil, p)
			end := len(c) - 4
			for first := range 8 * n {
				tried += damage(t, c, end-n, end, first)
			}
			for first := range 32 {
				tried += damage(t, c, end, len(c), first)
			}
		}
	}
	if tried < 100000 {
		t.Error("P4.5: only", tried, "changes were tried")
	}
}

func TestDamageOfTheChecksum(t *testing.T) {
	for _, p := range append(payloads(), []byte("damage")) {
		c := AppendFrame(nil, p)
		for first := range 32 {
			if damage(t, c, len(c)-4, len(c), first) == 0 {
				t.Error("P4.5: nothing was changed")
			}
		}
	}
}

func TestDamageOfLongPayloads(t *testing.T) {
	for _, n := range []int{300, 8191, 8192} {
		c := AppendFrame(nil, noise(n, n))
		end := len(c) - 4
		for i := 0; i < n; i += n / 7 {
			if damage(t, c, end-n, end, 8*i+i%8) == 0 {
				t.Error("P4.5: nothing was changed")
			}
		}
	}
}
