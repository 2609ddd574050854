package checksum

import (
	"bytes"
	"hash/crc32"
	"math"
	"math/big"
	"slices"
	"testing"
)

// scrambled returns n fixed words without a visible pattern.
func scrambled(n int) (words []uint64) {
	x := uint64(1)
	for range n {
		x = x*6364136223846793005 + 1442695040888963407
		words = append(words, x^x>>29)
	}
	return words
}

// noise returns n fixed bytes without a visible pattern, others for each start.
func noise(start, n int) (b []byte) {
	for _, w := range scrambled(start + n)[start:] {
		b = append(b, byte(w>>24))
	}
	return b
}

// filled returns n bytes c.
func filled(c byte, n int) []byte {
	return bytes.Repeat([]byte{c}, n)
}

// inputs returns no bytes, nil, and bytes of all lengths up to five groups and of some more.
func inputs() (l [][]byte) {
	l = append(l, nil, []byte{}, []byte("a"), []byte("ab"), []byte("123456789"))
	for n := 1; n <= 41; n++ {
		l = append(l, filled(0, n), filled(255, n), filled(128, n), filled(1, n), noise(n, n))
	}
	for _, n := range []int{63, 64, 65, 127, 128, 129, 255, 256, 257, 1000, 8192} {
		l = append(l, noise(n, n), filled(0, n))
	}
	return l
}

// sums returns checksums to be continued from: edges, single bits, and some between them.
func sums() (l []uint32) {
	l = append(l, 0, math.MaxUint32, 0xEDB88320, 0x12477CDF, 0xcbf43926, math.MaxUint32-1)
	for i := range 32 {
		l = append(l, 1<<i)
	}
	for _, w := range scrambled(8) {
		l = append(l, uint32(w>>16))
	}
	return l
}

// seeds returns words at and around the edges (of signed integers too), single bits, and some between them.
func seeds() (l []uint64) {
	l = append(l, 0, 3, 7, math.MaxUint64, math.MaxUint64-1, 1<<63-1, 1<<63+1, 1<<32-1, 1<<32+1, golden, ^uint64(golden)+1)
	for i := range 64 {
		l = append(l, 1<<i)
	}
	return append(l, scrambled(8)...)
}

// continued returns the checksum by the definition of Extend, bit by bit.
func continued(sum uint32, b []byte) uint32 {
	r := math.MaxUint32 - sum
	for _, c := range b {
		r ^= uint32(c)
		for range 8 {
			if r%2 == 1 {
				r = r/2 ^ 0xEDB88320
			} else {
				r /= 2
			}
		}
	}
	return math.MaxUint32 - r
}

// Words of the reference are natural numbers below this one, which is 2^64.
var whole = new(big.Int).Lsh(big.NewInt(1), 64)

// natural returns the word n.
func natural(n uint64) *big.Int {
	return new(big.Int).SetUint64(n)
}

// exclusive returns the bitwise exclusive or of x, and x shifted to the right by n.
func exclusive(x *big.Int, n uint) *big.Int {
	return new(big.Int).Xor(x, new(big.Int).Rsh(x, n))
}

// multiplied returns the product of x and y modulo 2^64.
func multiplied(x *big.Int, y uint64) *big.Int {
	z := new(big.Int).Mul(x, natural(y))
	return z.Mod(z, whole)
}

// mix mixes x by the definition of Hash.
func mix(x *big.Int) *big.Int {
	x = multiplied(exclusive(x, 30), 0xbf58476d1ce4e5b9)
	x = multiplied(exclusive(x, 27), 0x94d049bb133111eb)
	return exclusive(x, 31)
}

// hashed returns the hash by the definition of Hash.
func hashed(seed uint64, b []byte) uint64 {
	h := new(big.Int).Xor(natural(seed), multiplied(natural(0x9e3779b97f4a7c15), uint64(len(b))))
	for part := range slices.Chunk(b, 8) {
		g := slices.Clone(part)
		slices.Reverse(g) // big.Int reads the highest byte first
		h.Xor(h, new(big.Int).SetBytes(g))
		h.Add(h, natural(0x9e3779b97f4a7c15))
		h = mix(h.Mod(h, whole))
	}
	return mix(h).Uint64()
}

func TestExampleSums(t *testing.T) {
	for _, x := range []struct {
		call      string
		got, want uint32
	}{
		{"Sum32 of no bytes", Sum32([]byte{}), 0},
		{"Sum32 of nil", Sum32(nil), 0},
		{"Sum32 of 123456789", Sum32([]byte("123456789")), 0xcbf43926},
		{"Extend(Sum32 of a, b)", Extend(Sum32([]byte("a")), []byte("b")), 0x9e83486d},
		{"Sum32 of ab", Sum32([]byte("ab")), 0x9e83486d},
		{"Sum32 of one zero byte", Sum32([]byte{0}), 0xd202ef8d},
		{"Sum32 of a", Sum32([]byte("a")), 0xe8b7be43},
		{"Sum32 of eight bytes 255", Sum32(filled(255, 8)), 0x2144df1c},
		{"Extend of the least sum with nil", Extend(0, nil), 0},
		{"Extend of the greatest sum with nil", Extend(math.MaxUint32, nil), math.MaxUint32},
	} {
		if x.got != x.want {
			t.Errorf("P3.1: %s is %#x and not %#x", x.call, x.got, x.want)
		}
	}
}

func TestSums(t *testing.T) {
	for _, b := range inputs() {
		if sum := Sum32(b); sum != continued(0, b) || sum != crc32.ChecksumIEEE(b) {
			t.Errorf("P3.1: Sum32 of %d bytes %.8x is %#x and not %#x", len(b), b, sum, continued(0, b))
		}
		for _, sum := range sums() {
			if next := Extend(sum, b); next != continued(sum, b) || next != crc32.Update(sum, crc32.IEEETable, b) {
				t.Errorf("P3.1: Extend of %#x with %d bytes %.8x is %#x and not %#x", sum, len(b), b, next, continued(sum, b))
			}
		}
	}
}

// Each byte is continued from each value of the lowest byte of a sum.
func TestSumsOfAllBytes(t *testing.T) {
	for low := range uint32(256) {
		for c := range 256 {
			sum, b := 0x5a5a5a00|low, []byte{byte(c)}
			if next := Extend(sum, b); next != continued(sum, b) {
				t.Errorf("P3.1: Extend of %#x with the byte %d is %#x", sum, c, next)
			}
		}
	}
}

func TestExampleHashes(t *testing.T) {
	for _, x := range []struct {
		seed uint64
		b    []byte
		h    uint64
	}{
		{0, nil, 0}, {0, []byte{}, 0},
		{0, []byte("a"), 10811150683561025831},
		{7, []byte("12345678"), 8553921110080825787},
		{7, []byte("123456789"), 4973162054311077252},
		// These were computed by another program.
		{math.MaxUint64, nil, 13029008266876403067},
		{1, nil, 6238072747940578789},
		{1 << 63, filled(0, 1), 6439996906833834447},
		{1, filled(255, 8), 4183250832874642752},
		{math.MaxUint64, filled(255, 7), 11575935382400958607},
		{math.MaxUint64 - 2, []byte("abcdefghijklmnop"), 15902645792331803167},
		{math.MaxUint64 - 2, []byte("abcdefghijklmnopq"), 15475528556575076788},
		{0x9e3779b97f4a7c15, []byte("a"), 361491670660535238},
		{0, filled(0, 8), 10902636529861967473}, {0, filled(0, 9), 209069082011463222}, {0, filled(0, 16), 8015361479626868468},
	} {
		if h := Hash(x.seed, x.b); h != x.h {
			t.Errorf("P3.2: Hash of the seed %d and %d bytes %.8x is %d and not %d", x.seed, len(x.b), x.b, h, x.h)
		}
	}
}

func TestHashes(t *testing.T) {
	for _, b := range inputs() {
		for i, seed := range seeds() {
			if i > 12 && len(b) > 300 {
				break
			}
			if h := Hash(seed, b); h != hashed(seed, b) {
				t.Errorf("P3.2: Hash of the seed %d and %d bytes %.8x is %d and not %d", seed, len(b), b, h, hashed(seed, b))
			}
		}
	}
}

func TestExampleSamples(t *testing.T) {
	for _, x := range []struct {
		seed, permille int
		b              string
		ok             bool
	}{
		{0, 831, "a", false}, {0, 832, "a", true},
		{0, 0, "", false}, {0, 1, "", true}, // the hash is 0
		{-1, 67, "", false}, {-1, 68, "", true}, // the hash is that of 2^64 - 1
		{-3, 167, "abcdefghijklmnop", false}, {-3, 168, "abcdefghijklmnop", true},
		{math.MinInt, 447, "\x00", false}, {math.MinInt, 448, "\x00", true},
	} {
		if ok := Sample(x.seed, []byte(x.b), x.permille); ok != x.ok {
			t.Errorf("P3.3: Sample of the seed %d, %q and %d is %t", x.seed, x.b, x.permille, ok)
		}
	}
}

// word64 returns the word of a seed: the seed, and seed + 2^64 if it is negative.
func word64(seed int) uint64 {
	n := big.NewInt(int64(seed))
	return n.Mod(n, whole).Uint64()
}

func TestSamples(t *testing.T) {
	for _, b := range inputs() {
		if len(b) > 300 {
			continue
		}
		for _, seed := range []int{0, 1, -1, 7, -7, math.MaxInt, math.MinInt, math.MinInt + 1, 1 << 40, -1 << 40} {
			rest := int(hashed(word64(seed), b) % 1000)
			for _, permille := range []int{math.MinInt, -1000, -1, 0, 1, rest - 1, rest, rest + 1, 500, 998, 999, 1000, 1001, 1 << 32, 1<<32 + 1, math.MaxInt} {
				if ok := Sample(seed, b, permille); ok != (rest < permille) {
					t.Errorf("P3.3: Sample of the seed %d, %d bytes %.8x and %d is %t, and the hash is %d modulo 1000", seed, len(b), b, permille, ok, rest)
				}
			}
		}
	}
}

func TestNoneAndAllAreSampled(t *testing.T) {
	for i := range 20000 {
		b := noise(i%50, i/400)
		for _, permille := range []int{0, -1, math.MinInt} {
			if Sample(i, b, permille) {
				t.Error("P3.3: Sample is true for", i, b, permille)
			}
		}
		for _, permille := range []int{1000, 1001, math.MaxInt} {
			if !Sample(i, b, permille) {
				t.Error("P3.3: Sample is false for", i, b, permille)
			}
		}
	}
}

// No function depends on what lies behind the end of the bytes, on where they lie, or on an earlier call; none changes them.
func TestArgumentsStay(t *testing.T) {
	for n := range 20 {
		b := noise(n, n)
		longer := append(append([]byte("before"), b...), "behind"...)
		part, before := longer[6:6+n], slices.Clone(longer)
		for range 2 {
			if Sum32(part) != Sum32(b) || Extend(5, part) != Extend(5, b) {
				t.Error("P3.1: the checksum of a part differs from that of its", n, "bytes")
			}
			if Hash(5, part) != Hash(5, b) {
				t.Error("P3.2: the hash of a part differs from that of its", n, "bytes")
			}
			if rest := int(Hash(5, b) % 1000); Sample(5, part, rest) || !Sample(5, part, rest+1) {
				t.Error("P3.3: the sample of a part differs from that of its", n, "bytes")
			}
		}
		if !bytes.Equal(longer, before) {
			t.Error("P3.1 to P3.3: the argument has been changed")
		}
	}
}

func TestExtension(t *testing.T) {
	for _, b := range inputs() {
		if len(b) > 300 {
			continue
		}
		for i := range len(b) + 1 {
			if sum := Extend(Sum32(b[:i]), b[i:]); sum != Sum32(b) {
				t.Errorf("P3.4: the checksum of %.8x, continued after %d of %d bytes, is %#x", b, i, len(b), sum)
			}
		}
	}
}

func TestExtensionFromAnySum(t *testing.T) {
	b := noise(3, 24)
	for _, sum := range sums() {
		want := Extend(sum, b)
		for i := range len(b) + 1 {
			for j := i; j <= len(b); j++ {
				if next := Extend(Extend(Extend(sum, b[:i]), b[i:j]), b[j:]); next != want {
					t.Errorf("P3.4: from the sum %#x, continued after %d and %d bytes, to %#x and not %#x", sum, i, j, next, want)
				}
			}
		}
	}
}

// exclusiveOr returns a xor b, byte by byte.
func exclusiveOr(a, b []byte) (c []byte) {
	for i := range a {
		c = append(c, a[i]^b[i])
	}
	return c
}

func TestExclusiveOr(t *testing.T) {
	for _, n := range []int{0, 1, 2, 3, 4, 5, 8, 9, 31, 128, 1000} {
		l := [][]byte{filled(0, n), filled(255, n), filled(1, n), filled(128, n), noise(0, n), noise(1, n), noise(n, n)}
		for _, a := range l {
			for _, b := range l {
				for _, c := range l {
					all := exclusiveOr(exclusiveOr(a, b), c)
					if sum := Sum32(all); sum != Sum32(a)^Sum32(b)^Sum32(c) {
						t.Errorf("P3.4: the checksum of the exclusive or of %.8x, %.8x and %.8x (%d bytes) is %#x", a, b, c, n, sum)
					}
				}
			}
		}
	}
}

// changed returns b with the bits from the first one on inverted that are 1 in the pattern, and whether all of them are bits of b.
func changed(b []byte, first int, pattern uint32) (c []byte, ok bool) {
	c = slices.Clone(b)
	for i := range 32 {
		if pattern>>i&1 == 0 {
			continue
		}
		if first+i >= 8*len(b) {
			return nil, false
		}
		c[(first+i)/8] ^= 1 << ((first + i) % 8)
	}
	return c, true
}

// patterns returns changes of up to 32 bits whose first bit is changed: of one bit, of two, of all in a row, and others.
func patterns() (l []uint32) {
	for i := range 32 {
		l = append(l, 1|1<<i, 1<<i|(1<<i-1))
	}
	for _, w := range scrambled(24) {
		l = append(l, uint32(w)|1, uint32(w)|1|1<<31)
	}
	return append(l, 0xEDB88321, 0xDB710641) // near the polynomial, and its bits without the highest power
}

func TestDetection(t *testing.T) {
	tried := 0
	for _, n := range []int{1, 2, 3, 4, 5, 8, 9, 40, 129} {
		for _, b := range [][]byte{filled(0, n), filled(255, n), noise(n, n)} {
			sum := Sum32(b)
			for first := range 8 * n {
				for _, pattern := range patterns() {
					c, ok := changed(b, first, pattern)
					if !ok {
						continue
					}
					tried++
					if Sum32(c) == sum {
						t.Fatalf("P3.5: the bits %#x from %d on do not change the checksum of %.8x (%d bytes)", pattern, first, b, n)
					}
				}
			}
		}
	}
	if tried < 100000 {
		t.Fatal("only", tried, "changes were tried")
	}
}

// rank returns the number of independent ones among the words: those that are not an exclusive or of others.
func rank(words []uint32) (n int) {
	var basis []uint32
	for _, w := range words {
		for _, x := range basis {
			w = min(w, w^x)
		}
		if w != 0 {
			basis = append(basis, w)
		}
	}
	return len(basis)
}

// Inverting several bits inverts what each of them inverts in the checksum (P3.4): if what 32 bits invert is independent, every combination of them is detected.
func TestDetectionOfAllPatterns(t *testing.T) {
	for _, n := range []int{1, 2, 4, 5, 9, 130, 1024} {
		b := noise(n, n)
		var single []uint32
		for i := range 8 * n {
			c, _ := changed(b, i, 1)
			single = append(single, Sum32(c)^Sum32(b))
		}
		for first := range single {
			window := single[first:min(first+32, len(single))]
			if rank(window) != len(window) {
				t.Errorf("P3.5: some change of the bits from %d on leaves the checksum of %d bytes", first, n)
			}
		}
	}
}

// distinct checks that no two of the hashes are equal.
func distinct(t *testing.T, what string, hashes []uint64) {
	t.Helper()
	if len(hashes) < 2 {
		t.Error(what, "compares nothing")
	}
	slices.Sort(hashes)
	if len(slices.Compact(slices.Clone(hashes))) != len(hashes) {
		t.Error(what, "leads to equal hashes")
	}
}

func TestSeedsDiffer(t *testing.T) {
	l := seeds()
	for n := range uint64(300) {
		l = append(l, n<<8+5, -n-9, n*golden+11)
	}
	slices.Sort(l)
	l = slices.Compact(l)
	for _, b := range inputs() {
		if len(b) > 300 {
			continue
		}
		var hashes []uint64
		for _, seed := range l {
			hashes = append(hashes, Hash(seed, b))
		}
		distinct(t, "P3.6: another seed", hashes)
	}
}

// variants returns b, and b with each byte of the group from at on replaced by each other byte, alone or together with the next one.
func variants(b []byte, at int) (l [][]byte) {
	l = append(l, b)
	for i := at; i < min(at+8, len(b)); i++ {
		for x := 1; x < 256; x++ {
			c := slices.Clone(b)
			c[i] ^= byte(x)
			l = append(l, c)
			if i+1 < min(at+8, len(b)) {
				c = slices.Clone(c)
				c[i+1] ^= byte(x)
				l = append(l, c)
			}
		}
	}
	return l
}

func TestGroupsDiffer(t *testing.T) {
	for n := 1; n <= 26; n++ {
		for _, b := range [][]byte{filled(0, n), noise(n, n)} {
			for at := 0; at < n; at += 8 {
				var plain, seeded []uint64
				for _, c := range variants(b, at) {
					plain = append(plain, Hash(0, c))
					seeded = append(seeded, Hash(math.MaxUint64-4, c))
				}
				distinct(t, "P3.6: another group", plain)
				distinct(t, "P3.6: another group with a seed", seeded)
			}
		}
	}
}

func TestZeroBytesDiffer(t *testing.T) {
	for _, seed := range seeds() {
		for groups := range 4 {
			for n := range 8 {
				// Zero bytes follow n bytes of the last group, until it is full; without any byte there would be no group.
				b := noise(n, 8*groups+n)
				var hashes []uint64
				for zeros := range 9 - n {
					if n+zeros > 0 {
						hashes = append(hashes, Hash(seed, append(slices.Clone(b), filled(0, zeros)...)))
					}
				}
				distinct(t, "P3.6: a zero byte more", hashes)
			}
		}
	}
}

func TestNestedSamples(t *testing.T) {
	permilles := []int{math.MinInt, math.MinInt + 1, -1 << 32, -1000, -1}
	for n := range 1002 {
		permilles = append(permilles, n)
	}
	permilles = append(permilles, 1<<31, 1<<32, 1<<32+1, 1<<63-2, math.MaxInt)
	for _, seed := range []int{0, 1, -1, 12345, math.MinInt, math.MaxInt} {
		for i := range 60 {
			b, before := noise(i, i/2), false
			for _, permille := range permilles {
				ok := Sample(seed, b, permille)
				if before && !ok {
					t.Errorf("P3.7: %.8x (%d bytes) with the seed %d is sampled with less than %d, but not with it", b, len(b), seed, permille)
				}
				before = ok
			}
			if !before {
				t.Error("P3.7: with the greatest permille nothing is sampled")
			}
		}
	}
}

// Samples with a greater permille contain the smaller ones, and more: otherwise nested samples would say nothing.
func TestSamplesGrow(t *testing.T) {
	var sizes []int
	for permille := 0; permille <= 1000; permille += 100 {
		n := 0
		for i := range 2000 {
			if Sample(i-1000, []byte("user"), permille) {
				n++
			}
		}
		sizes = append(sizes, n)
	}
	if !slices.IsSorted(sizes) || len(slices.Compact(slices.Clone(sizes))) != len(sizes) {
		t.Error("P3.7: the sizes of the samples are", sizes)
	}
}
